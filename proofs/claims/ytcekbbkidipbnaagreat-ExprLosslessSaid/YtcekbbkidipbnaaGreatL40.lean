/-
  Texts put together: Rbn, Rbo.
-/
import Derived.Test.YtcekbbkidipbnaaGreatL39
set_option maxRecDepth 100000
set_option maxHeartbeats 8000000
namespace Go.Proofs.YtcekbbkidipbnaaGreat.lx
open Go.RowKit Go.Proofs.YtcekbbkidipbnaaGreat.tok
theorem refNext_11a {s:ByteArray} {i:Nat} {c:UInt8} {w:World} (hlt:i<s.size) (hc:s[i]=c) (hs:s.size≤4194304) (m:Nx) (hm:m=signL lang (s.data.toList.drop i)) (h1:i≠0∨Lib.hasPrefix s.data.toList mark=false) (h2:isBl c=false) (h3:c≠10) (h4:c≠47) (h6:isLt c=false) (h7:isDg c=false) (h8:c≠34) (h9:c≠39) (h10:c≠96) :
  Calls Tryz.prog 134 #[.string s,.int .i64 (i:Int)] w (Told m i w):=by
 have HW:=Lib.hid hm
 have HSD:=Lib.hid (sdata s)
 have hix:∀ u:World,(Instr.index 9 (.string s) (.int .i64 (i:Int))).run Tryz.prog u=.ok (.int .u8 (c.toNat:Int)) u:=fun u=>by rw[← hc];exact index_at s _ i rfl hlt u
 have H2:=Lib.hid (fun u=>refBlank_then c u)
 rw[h2] at H2
 have b10:((c.toNat:Int) == 10)=false:=byte_ne (d:=10) h3
 have b47:((c.toNat:Int) == 47)=false:=byte_ne (d:=47) h4
 have b34:((c.toNat:Int) == 34)=false:=byte_ne (d:=34) h8
 have b39:((c.toNat:Int) == 39)=false:=byte_ne (d:=39) h9
 have b96:((c.toNat:Int) == 96)=false:=byte_ne (d:=96) h10
 have H6:=Lib.hid (fun u=>refLetter_any c u)
 rw[h6] at H6
 have H7:=Lib.hid (fun u=>refDigit_any c u)
 rw[h7] at H7
 have HT:=Lib.hid (fun u=>refOther_any s i u hs hlt)
 clear h2 h3 hm hc h4 h6 h7 h8 h9 h10
 rcases nm_cases h1 with h1|⟨h1,h3⟩|⟨h1,h3,h4⟩
 ·have b1:((i:Int) == 0)=false:=beq_eq_false_iff_ne.2 (by omega)
  clear h1
  go_enter Tryz.func134,Tryz.ntmps134
  go_wp2_with (first|(go_at_call 146;refine(H2.out _).mono ?_;rintro e W ⟨rfl,hbW⟩;have HF:=Lib.hid ((four_new w (.int .i64 0) (.int .i64 (i:Int)) (.int .i64 ((i:Int)+1)) (.int .i64 0) (.int .i64 (i:Int)) (.int .i64 0)).then hbW);obtain⟨⟨⟨u0,u1,u2,u3,u4,u5,k0,k1,k2,k3,k4,k5⟩,f0,f1,f2,f3,f4,f5⟩,x0,x1,x2,y0,y1,y2,⟨⟨g0,g1,g2⟩,g3,g4,g5⟩,_⟩:=HF.out;clear hbW)|(go_at_call 147;refine(H6.out _).mono ?_;rintro e w' ⟨rfl,rfl⟩)|(go_at_call 148;refine(H7.out _).mono ?_;rintro e w' ⟨rfl,rfl⟩)|(go_at_call 152;refine(HT.out _).mono ?_;rintro e W2 ⟨xx,yy,rfl,hxy,hb2⟩;have HY:=Lib.hid hxy;have HG:=Lib.hid (HF.out.then hb2);clear k0 k1 k2 k3 k4 k5 f0 f1 f2 f3 f4 f5 x0 x1 x2 y0 y1 y2 g0 g1 g2 g3 g4 g5;clear hb2 hxy;obtain⟨⟨⟨u0,u1,u2,u3,u4,u5,k0,k1,k2,k3,k4,k5⟩,f0,f1,f2,f3,f4,f5⟩,x0,x1,x2,y0,y1,y2,⟨⟨g0,g1,g2⟩,g3,g4,g5⟩,_⟩:=HG.out))
  exact bodyPost_ret (results_two Tryz.results134 _ HG.out.six _ _ _ _ _ _ rfl rfl) rfl (Told.same HW.out HY.out (below_put6 HG.out.below (Nat.le_refl _) _ _ _ _ _ _))
 ·have b1:((i:Int) == 0)=true:=beq_iff_eq.2 (by omega)
  have d3:decide (3≤(s.size:Int))=false:=decide_eq_false (by omega)
  clear h1 h3
  go_enter Tryz.func134,Tryz.ntmps134
  go_wp2_with (first|(go_at_call 146;refine(H2.out _).mono ?_;rintro e W ⟨rfl,hbW⟩;have HF:=Lib.hid ((four_new w (.int .i64 0) (.int .i64 (i:Int)) (.int .i64 ((i:Int)+1)) (.int .i64 0) (.int .i64 (i:Int)) (.int .i64 0)).then hbW);obtain⟨⟨⟨u0,u1,u2,u3,u4,u5,k0,k1,k2,k3,k4,k5⟩,f0,f1,f2,f3,f4,f5⟩,x0,x1,x2,y0,y1,y2,⟨⟨g0,g1,g2⟩,g3,g4,g5⟩,_⟩:=HF.out;clear hbW)|(go_at_call 147;refine(H6.out _).mono ?_;rintro e w' ⟨rfl,rfl⟩)|(go_at_call 148;refine(H7.out _).mono ?_;rintro e w' ⟨rfl,rfl⟩)|(go_at_call 152;refine(HT.out _).mono ?_;rintro e W2 ⟨xx,yy,rfl,hxy,hb2⟩;have HY:=Lib.hid hxy;have HG:=Lib.hid (HF.out.then hb2);clear k0 k1 k2 k3 k4 k5 f0 f1 f2 f3 f4 f5 x0 x1 x2 y0 y1 y2 g0 g1 g2 g3 g4 g5;clear hb2 hxy;obtain⟨⟨⟨u0,u1,u2,u3,u4,u5,k0,k1,k2,k3,k4,k5⟩,f0,f1,f2,f3,f4,f5⟩,x0,x1,x2,y0,y1,y2,⟨⟨g0,g1,g2⟩,g3,g4,g5⟩,_⟩:=HG.out))
  exact bodyPost_ret (results_two Tryz.results134 _ HG.out.six _ _ _ _ _ _ rfl rfl) rfl (Told.same HW.out HY.out (below_put6 HG.out.below (Nat.le_refl _) _ _ _ _ _ _))
 ·have b1:((i:Int) == 0)=true:=beq_iff_eq.2 (by omega)
  have d3:decide (3≤(s.size:Int))=true:=decide_eq_true (by omega)
  have hsl3:=slice_to s 3 3 rfl h3
  obtain⟨x3,hx3⟩:∃ x,B (s.data.toList.take 3)=x:=⟨_,rfl⟩
  rw[hx3] at h4 hsl3
  clear h1 h3 hx3
  go_enter Tryz.func134,Tryz.ntmps134
  go_wp2_with (first|(go_at_call 146;refine(H2.out _).mono ?_;rintro e W ⟨rfl,hbW⟩;have HF:=Lib.hid ((four_new w (.int .i64 0) (.int .i64 (i:Int)) (.int .i64 ((i:Int)+1)) (.int .i64 0) (.int .i64 (i:Int)) (.int .i64 0)).then hbW);obtain⟨⟨⟨u0,u1,u2,u3,u4,u5,k0,k1,k2,k3,k4,k5⟩,f0,f1,f2,f3,f4,f5⟩,x0,x1,x2,y0,y1,y2,⟨⟨g0,g1,g2⟩,g3,g4,g5⟩,_⟩:=HF.out;clear hbW)|(go_at_call 147;refine(H6.out _).mono ?_;rintro e w' ⟨rfl,rfl⟩)|(go_at_call 148;refine(H7.out _).mono ?_;rintro e w' ⟨rfl,rfl⟩)|(go_at_call 152;refine(HT.out _).mono ?_;rintro e W2 ⟨xx,yy,rfl,hxy,hb2⟩;have HY:=Lib.hid hxy;have HG:=Lib.hid (HF.out.then hb2);clear k0 k1 k2 k3 k4 k5 f0 f1 f2 f3 f4 f5 x0 x1 x2 y0 y1 y2 g0 g1 g2 g3 g4 g5;clear hb2 hxy;obtain⟨⟨⟨u0,u1,u2,u3,u4,u5,k0,k1,k2,k3,k4,k5⟩,f0,f1,f2,f3,f4,f5⟩,x0,x1,x2,y0,y1,y2,⟨⟨g0,g1,g2⟩,g3,g4,g5⟩,_⟩:=HG.out))
  exact bodyPost_ret (results_two Tryz.results134 _ HG.out.six _ _ _ _ _ _ rfl rfl) rfl (Told.same HW.out HY.out (below_put6 HG.out.below (Nat.le_refl _) _ _ _ _ _ _))
theorem refNext_11b {s:ByteArray} {i:Nat} {c:UInt8} {w:World} (hlt:i<s.size) (hc:s[i]=c) (hs:s.size≤4194304) (m:Nx) (hm:m=signL lang (s.data.toList.drop i)) (h1:i≠0∨Lib.hasPrefix s.data.toList mark=false) (h2:isBl c=false) (h3:c≠10) (h4:c=47) (h5:s.size≤i+1) (h6:isLt c=false) (h7:isDg c=false) (h8:c≠34) (h9:c≠39) (h10:c≠96) :
  Calls Tryz.prog 134 #[.string s,.int .i64 (i:Int)] w (Told m i w):=by
 have HW:=Lib.hid hm
 have HSD:=Lib.hid (sdata s)
 have hix:∀ u:World,(Instr.index 9 (.string s) (.int .i64 (i:Int))).run Tryz.prog u=.ok (.int .u8 (c.toNat:Int)) u:=fun u=>by rw[← hc];exact index_at s _ i rfl hlt u
 have H2:=Lib.hid (fun u=>refBlank_then c u)
 rw[h2] at H2
 have b10:((c.toNat:Int) == 10)=false:=byte_ne (d:=10) h3
 have b47:((c.toNat:Int) == 47)=true:=byte_eq (d:=47) h4
 have dl1:decide ((i:Int)+1<(s.size:Int))=false:=decide_eq_false (by omega)
 have b34:((c.toNat:Int) == 34)=false:=byte_ne (d:=34) h8
 have b39:((c.toNat:Int) == 39)=false:=byte_ne (d:=39) h9
 have b96:((c.toNat:Int) == 96)=false:=byte_ne (d:=96) h10
 have H6:=Lib.hid (fun u=>refLetter_any c u)
 rw[h6] at H6
 have H7:=Lib.hid (fun u=>refDigit_any c u)
 rw[h7] at H7
 have HT:=Lib.hid (fun u=>refOther_any s i u hs hlt)
 clear h2 h3 hm hc h4 h5 h6 h7 h8 h9 h10
 rcases nm_cases h1 with h1|⟨h1,h3⟩|⟨h1,h3,h4⟩
 ·have b1:((i:Int) == 0)=false:=beq_eq_false_iff_ne.2 (by omega)
  clear h1
  go_enter Tryz.func134,Tryz.ntmps134
  go_wp2_with (first|(go_at_call 146;refine(H2.out _).mono ?_;rintro e W ⟨rfl,hbW⟩;have HF:=Lib.hid ((four_new w (.int .i64 0) (.int .i64 (i:Int)) (.int .i64 ((i:Int)+1)) (.int .i64 0) (.int .i64 (i:Int)) (.int .i64 0)).then hbW);obtain⟨⟨⟨u0,u1,u2,u3,u4,u5,k0,k1,k2,k3,k4,k5⟩,f0,f1,f2,f3,f4,f5⟩,x0,x1,x2,y0,y1,y2,⟨⟨g0,g1,g2⟩,g3,g4,g5⟩,_⟩:=HF.out;clear hbW)|(go_at_call 147;refine(H6.out _).mono ?_;rintro e w' ⟨rfl,rfl⟩)|(go_at_call 148;refine(H7.out _).mono ?_;rintro e w' ⟨rfl,rfl⟩)|(go_at_call 152;refine(HT.out _).mono ?_;rintro e W2 ⟨xx,yy,rfl,hxy,hb2⟩;have HY:=Lib.hid hxy;have HG:=Lib.hid (HF.out.then hb2);clear k0 k1 k2 k3 k4 k5 f0 f1 f2 f3 f4 f5 x0 x1 x2 y0 y1 y2 g0 g1 g2 g3 g4 g5;clear hb2 hxy;obtain⟨⟨⟨u0,u1,u2,u3,u4,u5,k0,k1,k2,k3,k4,k5⟩,f0,f1,f2,f3,f4,f5⟩,x0,x1,x2,y0,y1,y2,⟨⟨g0,g1,g2⟩,g3,g4,g5⟩,_⟩:=HG.out))
  exact bodyPost_ret (results_two Tryz.results134 _ HG.out.six _ _ _ _ _ _ rfl rfl) rfl (Told.same HW.out HY.out (below_put6 HG.out.below (Nat.le_refl _) _ _ _ _ _ _))
 ·have b1:((i:Int) == 0)=true:=beq_iff_eq.2 (by omega)
  have d3:decide (3≤(s.size:Int))=false:=decide_eq_false (by omega)
  clear h1 h3
  go_enter Tryz.func134,Tryz.ntmps134
  go_wp2_with (first|(go_at_call 146;refine(H2.out _).mono ?_;rintro e W ⟨rfl,hbW⟩;have HF:=Lib.hid ((four_new w (.int .i64 0) (.int .i64 (i:Int)) (.int .i64 ((i:Int)+1)) (.int .i64 0) (.int .i64 (i:Int)) (.int .i64 0)).then hbW);obtain⟨⟨⟨u0,u1,u2,u3,u4,u5,k0,k1,k2,k3,k4,k5⟩,f0,f1,f2,f3,f4,f5⟩,x0,x1,x2,y0,y1,y2,⟨⟨g0,g1,g2⟩,g3,g4,g5⟩,_⟩:=HF.out;clear hbW)|(go_at_call 147;refine(H6.out _).mono ?_;rintro e w' ⟨rfl,rfl⟩)|(go_at_call 148;refine(H7.out _).mono ?_;rintro e w' ⟨rfl,rfl⟩)|(go_at_call 152;refine(HT.out _).mono ?_;rintro e W2 ⟨xx,yy,rfl,hxy,hb2⟩;have HY:=Lib.hid hxy;have HG:=Lib.hid (HF.out.then hb2);clear k0 k1 k2 k3 k4 k5 f0 f1 f2 f3 f4 f5 x0 x1 x2 y0 y1 y2 g0 g1 g2 g3 g4 g5;clear hb2 hxy;obtain⟨⟨⟨u0,u1,u2,u3,u4,u5,k0,k1,k2,k3,k4,k5⟩,f0,f1,f2,f3,f4,f5⟩,x0,x1,x2,y0,y1,y2,⟨⟨g0,g1,g2⟩,g3,g4,g5⟩,_⟩:=HG.out))
  exact bodyPost_ret (results_two Tryz.results134 _ HG.out.six _ _ _ _ _ _ rfl rfl) rfl (Told.same HW.out HY.out (below_put6 HG.out.below (Nat.le_refl _) _ _ _ _ _ _))
 ·have b1:((i:Int) == 0)=true:=beq_iff_eq.2 (by omega)
  have d3:decide (3≤(s.size:Int))=true:=decide_eq_true (by omega)
  have hsl3:=slice_to s 3 3 rfl h3
  obtain⟨x3,hx3⟩:∃ x,B (s.data.toList.take 3)=x:=⟨_,rfl⟩
  rw[hx3] at h4 hsl3
  clear h1 h3 hx3
  go_enter Tryz.func134,Tryz.ntmps134
  go_wp2_with (first|(go_at_call 146;refine(H2.out _).mono ?_;rintro e W ⟨rfl,hbW⟩;have HF:=Lib.hid ((four_new w (.int .i64 0) (.int .i64 (i:Int)) (.int .i64 ((i:Int)+1)) (.int .i64 0) (.int .i64 (i:Int)) (.int .i64 0)).then hbW);obtain⟨⟨⟨u0,u1,u2,u3,u4,u5,k0,k1,k2,k3,k4,k5⟩,f0,f1,f2,f3,f4,f5⟩,x0,x1,x2,y0,y1,y2,⟨⟨g0,g1,g2⟩,g3,g4,g5⟩,_⟩:=HF.out;clear hbW)|(go_at_call 147;refine(H6.out _).mono ?_;rintro e w' ⟨rfl,rfl⟩)|(go_at_call 148;refine(H7.out _).mono ?_;rintro e w' ⟨rfl,rfl⟩)|(go_at_call 152;refine(HT.out _).mono ?_;rintro e W2 ⟨xx,yy,rfl,hxy,hb2⟩;have HY:=Lib.hid hxy;have HG:=Lib.hid (HF.out.then hb2);clear k0 k1 k2 k3 k4 k5 f0 f1 f2 f3 f4 f5 x0 x1 x2 y0 y1 y2 g0 g1 g2 g3 g4 g5;clear hb2 hxy;obtain⟨⟨⟨u0,u1,u2,u3,u4,u5,k0,k1,k2,k3,k4,k5⟩,f0,f1,f2,f3,f4,f5⟩,x0,x1,x2,y0,y1,y2,⟨⟨g0,g1,g2⟩,g3,g4,g5⟩,_⟩:=HG.out))
  exact bodyPost_ret (results_two Tryz.results134 _ HG.out.six _ _ _ _ _ _ rfl rfl) rfl (Told.same HW.out HY.out (below_put6 HG.out.below (Nat.le_refl _) _ _ _ _ _ _))
theorem refNext_11c {s:ByteArray} {i:Nat} {c:UInt8} {w:World} (hlt:i<s.size) (hc:s[i]=c) (hs:s.size≤4194304) (m:Nx) (hm:m=signL lang (s.data.toList.drop i)) (h1:i≠0∨Lib.hasPrefix s.data.toList mark=false) (h2:isBl c=false) (h3:c≠10) (h4:c=47) (h5:i+1<s.size) (d:UInt8) (hd:s[i+1]=d) (h47:d≠47) (h42:d≠42) (h6:isLt c=false) (h7:isDg c=false) (h8:c≠34) (h9:c≠39) (h10:c≠96) :
  Calls Tryz.prog 134 #[.string s,.int .i64 (i:Int)] w (Told m i w):=by
 have HW:=Lib.hid hm
 have HSD:=Lib.hid (sdata s)
 have hix:∀ u:World,(Instr.index 9 (.string s) (.int .i64 (i:Int))).run Tryz.prog u=.ok (.int .u8 (c.toNat:Int)) u:=fun u=>by rw[← hc];exact index_at s _ i rfl hlt u
 have H2:=Lib.hid (fun u=>refBlank_then c u)
 rw[h2] at H2
 have b10:((c.toNat:Int) == 10)=false:=byte_ne (d:=10) h3
 have b47:((c.toNat:Int) == 47)=true:=byte_eq (d:=47) h4
 have dl1:decide ((i:Int)+1<(s.size:Int))=true:=decide_eq_true (by omega)
 have hix1:∀ u:World,(Instr.index 9 (.string s) (.int .i64 ((i:Int)+1))).run Tryz.prog u=.ok (.int .u8 (d.toNat:Int)) u:=fun u=>by rw[← hd];exact index_at s _ (i+1) (by omega) h5 u
 have bd:((d.toNat:Int) == 47)=false:=byte_ne (d:=47) h47
 have bd2:((d.toNat:Int) == 42)=false:=byte_ne (d:=42) h42
 have b34:((c.toNat:Int) == 34)=false:=byte_ne (d:=34) h8
 have b39:((c.toNat:Int) == 39)=false:=byte_ne (d:=39) h9
 have b96:((c.toNat:Int) == 96)=false:=byte_ne (d:=96) h10
 have H6:=Lib.hid (fun u=>refLetter_any c u)
 rw[h6] at H6
 have H7:=Lib.hid (fun u=>refDigit_any c u)
 rw[h7] at H7
 have HT:=Lib.hid (fun u=>refOther_any s i u hs hlt)
 clear h2 h3 hm hc h4 hd h47 h42 h6 h7 h8 h9 h10
 rcases nm_cases h1 with h1|⟨h1,h3⟩|⟨h1,h3,h4⟩
 ·have b1:((i:Int) == 0)=false:=beq_eq_false_iff_ne.2 (by omega)
  clear h1
  go_enter Tryz.func134,Tryz.ntmps134
  go_wp2_with (first|(go_at_call 146;refine(H2.out _).mono ?_;rintro e W ⟨rfl,hbW⟩;have HF:=Lib.hid ((four_new w (.int .i64 0) (.int .i64 (i:Int)) (.int .i64 ((i:Int)+1)) (.int .i64 0) (.int .i64 (i:Int)) (.int .i64 0)).then hbW);obtain⟨⟨⟨u0,u1,u2,u3,u4,u5,k0,k1,k2,k3,k4,k5⟩,f0,f1,f2,f3,f4,f5⟩,x0,x1,x2,y0,y1,y2,⟨⟨g0,g1,g2⟩,g3,g4,g5⟩,_⟩:=HF.out;clear hbW)|(go_at_call 147;refine(H6.out _).mono ?_;rintro e w' ⟨rfl,rfl⟩)|(go_at_call 148;refine(H7.out _).mono ?_;rintro e w' ⟨rfl,rfl⟩)|(go_at_call 152;refine(HT.out _).mono ?_;rintro e W2 ⟨xx,yy,rfl,hxy,hb2⟩;have HY:=Lib.hid hxy;have HG:=Lib.hid (HF.out.then hb2);clear k0 k1 k2 k3 k4 k5 f0 f1 f2 f3 f4 f5 x0 x1 x2 y0 y1 y2 g0 g1 g2 g3 g4 g5;clear hb2 hxy;obtain⟨⟨⟨u0,u1,u2,u3,u4,u5,k0,k1,k2,k3,k4,k5⟩,f0,f1,f2,f3,f4,f5⟩,x0,x1,x2,y0,y1,y2,⟨⟨g0,g1,g2⟩,g3,g4,g5⟩,_⟩:=HG.out))
  exact bodyPost_ret (results_two Tryz.results134 _ HG.out.six _ _ _ _ _ _ rfl rfl) rfl (Told.same HW.out HY.out (below_put6 HG.out.below (Nat.le_refl _) _ _ _ _ _ _))
 ·have b1:((i:Int) == 0)=true:=beq_iff_eq.2 (by omega)
  have d3:decide (3≤(s.size:Int))=false:=decide_eq_false (by omega)
  clear h1 h3
  go_enter Tryz.func134,Tryz.ntmps134
  go_wp2_with (first|(go_at_call 146;refine(H2.out _).mono ?_;rintro e W ⟨rfl,hbW⟩;have HF:=Lib.hid ((four_new w (.int .i64 0) (.int .i64 (i:Int)) (.int .i64 ((i:Int)+1)) (.int .i64 0) (.int .i64 (i:Int)) (.int .i64 0)).then hbW);obtain⟨⟨⟨u0,u1,u2,u3,u4,u5,k0,k1,k2,k3,k4,k5⟩,f0,f1,f2,f3,f4,f5⟩,x0,x1,x2,y0,y1,y2,⟨⟨g0,g1,g2⟩,g3,g4,g5⟩,_⟩:=HF.out;clear hbW)|(go_at_call 147;refine(H6.out _).mono ?_;rintro e w' ⟨rfl,rfl⟩)|(go_at_call 148;refine(H7.out _).mono ?_;rintro e w' ⟨rfl,rfl⟩)|(go_at_call 152;refine(HT.out _).mono ?_;rintro e W2 ⟨xx,yy,rfl,hxy,hb2⟩;have HY:=Lib.hid hxy;have HG:=Lib.hid (HF.out.then hb2);clear k0 k1 k2 k3 k4 k5 f0 f1 f2 f3 f4 f5 x0 x1 x2 y0 y1 y2 g0 g1 g2 g3 g4 g5;clear hb2 hxy;obtain⟨⟨⟨u0,u1,u2,u3,u4,u5,k0,k1,k2,k3,k4,k5⟩,f0,f1,f2,f3,f4,f5⟩,x0,x1,x2,y0,y1,y2,⟨⟨g0,g1,g2⟩,g3,g4,g5⟩,_⟩:=HG.out))
  exact bodyPost_ret (results_two Tryz.results134 _ HG.out.six _ _ _ _ _ _ rfl rfl) rfl (Told.same HW.out HY.out (below_put6 HG.out.below (Nat.le_refl _) _ _ _ _ _ _))
 ·have b1:((i:Int) == 0)=true:=beq_iff_eq.2 (by omega)
  have d3:decide (3≤(s.size:Int))=true:=decide_eq_true (by omega)
  have hsl3:=slice_to s 3 3 rfl h3
  obtain⟨x3,hx3⟩:∃ x,B (s.data.toList.take 3)=x:=⟨_,rfl⟩
  rw[hx3] at h4 hsl3
  clear h1 h3 hx3
  go_enter Tryz.func134,Tryz.ntmps134
  go_wp2_with (first|(go_at_call 146;refine(H2.out _).mono ?_;rintro e W ⟨rfl,hbW⟩;have HF:=Lib.hid ((four_new w (.int .i64 0) (.int .i64 (i:Int)) (.int .i64 ((i:Int)+1)) (.int .i64 0) (.int .i64 (i:Int)) (.int .i64 0)).then hbW);obtain⟨⟨⟨u0,u1,u2,u3,u4,u5,k0,k1,k2,k3,k4,k5⟩,f0,f1,f2,f3,f4,f5⟩,x0,x1,x2,y0,y1,y2,⟨⟨g0,g1,g2⟩,g3,g4,g5⟩,_⟩:=HF.out;clear hbW)|(go_at_call 147;refine(H6.out _).mono ?_;rintro e w' ⟨rfl,rfl⟩)|(go_at_call 148;refine(H7.out _).mono ?_;rintro e w' ⟨rfl,rfl⟩)|(go_at_call 152;refine(HT.out _).mono ?_;rintro e W2 ⟨xx,yy,rfl,hxy,hb2⟩;have HY:=Lib.hid hxy;have HG:=Lib.hid (HF.out.then hb2);clear k0 k1 k2 k3 k4 k5 f0 f1 f2 f3 f4 f5 x0 x1 x2 y0 y1 y2 g0 g1 g2 g3 g4 g5;clear hb2 hxy;obtain⟨⟨⟨u0,u1,u2,u3,u4,u5,k0,k1,k2,k3,k4,k5⟩,f0,f1,f2,f3,f4,f5⟩,x0,x1,x2,y0,y1,y2,⟨⟨g0,g1,g2⟩,g3,g4,g5⟩,_⟩:=HG.out))
  exact bodyPost_ret (results_two Tryz.results134 _ HG.out.six _ _ _ _ _ _ rfl rfl) rfl (Told.same HW.out HY.out (below_put6 HG.out.below (Nat.le_refl _) _ _ _ _ _ _))
open Go.RowKit Go.Proofs.YtcekbbkidipbnaaGreat.tok
theorem refNext_6 {s:ByteArray} {i:Nat} {c:UInt8} {w:World} (hlt:i<s.size) (hc:s[i]=c) (hs:s.size≤4194304) (m:Nx) (hm:m=right (if kwOf ((s.data.toList.drop i).take (runL isWd (s.data.toList.drop i)))=0 then 10 else kwOf ((s.data.toList.drop i).take (runL isWd (s.data.toList.drop i)))) (runL isWd (s.data.toList.drop i))) (h1:i≠0∨Lib.hasPrefix s.data.toList mark=false) (h2:isBl c=false) (h3:c≠10) (h4:c≠47) (h6:isLt c=true) :
  Calls Tryz.prog 134 #[.string s,.int .i64 (i:Int)] w (Told m i w):=by
 have HW:=Lib.hid hm
 have HSD:=Lib.hid (sdata s)
 have hix:∀ u:World,(Instr.index 9 (.string s) (.int .i64 (i:Int))).run Tryz.prog u=.ok (.int .u8 (c.toNat:Int)) u:=fun u=>by rw[← hc];exact index_at s _ i rfl hlt u
 have HC:Hid (∀ h:i<s.data.toList.length,isWd s.data.toList[i]=true):=Lib.hid (fun _=>by rw[show s.data.toList[i]=s[i] from rfl,hc];unfold isWd;rw[h6,Bool.true_or])
 have H2:=Lib.hid (fun u=>refBlank_then c u)
 rw[h2] at H2
 have b10:((c.toNat:Int) == 10)=false:=byte_ne (d:=10) h3
 have b47:((c.toNat:Int) == 47)=false:=byte_ne (d:=47) h4
 have H6:=Lib.hid (fun u=>refLetter_any c u)
 rw[h6] at H6
 clear h2 h3 h4 h6 hm hc
 rcases nm_cases h1 with h1|⟨h1,h3⟩|⟨h1,h3,h4⟩
 ·have b1:((i:Int) == 0)=false:=beq_eq_false_iff_ne.2 (by omega)
  clear h1
  go_enter Tryz.func134,Tryz.ntmps134
  go_wp2_with (first|(go_at_call 146;refine(H2.out _).mono ?_;rintro e W ⟨rfl,hbW⟩;have HF:=Lib.hid ((four_new w (.int .i64 0) (.int .i64 (i:Int)) (.int .i64 ((i:Int)+1)) (.int .i64 0) (.int .i64 (i:Int)) (.int .i64 0)).then hbW);obtain⟨⟨⟨u0,u1,u2,u3,u4,u5,k0,k1,k2,k3,k4,k5⟩,f0,f1,f2,f3,f4,f5⟩,x0,x1,x2,y0,y1,y2,⟨⟨g0,g1,g2⟩,g3,g4,g5⟩,_⟩:=HF.out;clear hbW)|(go_at_call 147;refine(H6.out _).mono ?_;rintro e w' ⟨rfl,rfl⟩))
  have HF1:=Lib.hid (HF.out)
  have e1:((i:Int)+1)=((i+1:Nat):Int):=by omega
  have HF2:=HF1
  rw[e1] at HF2
  clear k0 k1 k2 k3 k4 k5 f0 f1 f2 f3 f4 f5 x0 x1 x2 y0 y1 y2 g0 g1 g2 g3 g4 g5
  go_loopw [] (fun wr=>∃ n:Nat,i<n∧n≤s.size∧Four w wr (.int .i64 0) (.int .i64 (i:Int)) (.int .i64 (n:Int)) (.int .i64 0) (.int .i64 (i:Int)) (.int .i64 0)∧∀ j,i≤j→j<n→∀ h:j<s.data.toList.length,isWd s.data.toList[j]=true) (fun wr=>s.size - (intOf ((wr.cell? ⟨w.heap.size+1+1,2,none⟩).getD undef)).toNat)
  case atStart=>exact⟨i+1,by omega,by omega,HF2.out,fun j g1 g2 h=>by
           obtain rfl:j=i:=by omega
           exact HC.out h⟩
  case round=>
   obtain⟨n,hn1,hn2,hfo,hall⟩:=hrel
   have HR:=Lib.hid hfo
   have HA:=Lib.hid hall
   clear hfo hall HF HF1 HF2 e1
   obtain⟨⟨⟨u0,u1,u2,u3,u4,u5,k0,k1,k2,k3,k4,k5⟩,f0,f1,f2,f3,f4,f5⟩,x0,x1,x2,y0,y1,y2,⟨⟨g0,g1,g2⟩,g3,g4,g5⟩,_⟩:=HR.out
   by_cases hlt2:n<s.size
   ·obtain⟨d,hd⟩:∃ d,s[n]'hlt2=d:=⟨_,rfl⟩
    have hixn:∀ u:World,(Instr.index 9 (.string s) (.int .i64 (n:Int))).run Tryz.prog u=.ok (.int .u8 (d.toNat:Int)) u:=fun u=>by rw[← hd];exact index_at s _ n rfl hlt2 u
    have HD:Hid (∀ h:n<s.data.toList.length,s.data.toList[n]=d):=Lib.hid (fun _=>by rw[← hd];rfl)
    have dlt:decide ((n:Int)<(s.size:Int))=true:=decide_eq_true (by omega)
    clear hd
    cases hL:isLt d with
    |true=>
     have H3:=Lib.hid (fun u=>refLetter_any d u)
     rw[hL] at H3
     have HP:Hid (isWd d=true):=Lib.hid (by unfold isWd;rw[hL];rfl)
     clear hL
     go_wp2_with (go_at_call 147;refine(H3.out _).mono ?_;rintro e w' ⟨rfl,rfl⟩)
     go_roundw
     case rel=>exact⟨n+1,by omega,by omega,by have:=HR.out.set2 (.int .i64 ((n+1:Nat):Int));exact this,fun j g1 g2 h=>by
            by_cases e:j=n
            ·subst e;rw[HD.out h];exact HP.out
            ·exact HA.out j g1 (by omega) h⟩
     case measure=>have e2:=(HR.out.set2 (.int .i64 ((n:Int)+1))).x2;simp only[x2,e2,Option.getD_some,intOf];omega
    |false=>
     have H3:=Lib.hid (fun u=>refLetter_any d u)
     rw[hL] at H3
     have H5:=Lib.hid (fun u=>refDigit_any d u)
     cases hG:isDg d with
     |true=>
      rw[hG] at H5
      have HP:Hid (isWd d=true):=Lib.hid (by unfold isWd;rw[hL,hG];rfl)
      clear hL hG
      go_wp2_with (first|(go_at_call 147;refine(H3.out _).mono ?_;rintro e w' ⟨rfl,rfl⟩)|(go_at_call 148;refine(H5.out _).mono ?_;rintro e w' ⟨rfl,rfl⟩))
      go_roundw
      case rel=>exact⟨n+1,by omega,by omega,by have:=HR.out.set2 (.int .i64 ((n+1:Nat):Int));exact this,fun j g1 g2 h=>by
             by_cases e:j=n
             ·subst e;rw[HD.out h];exact HP.out
             ·exact HA.out j g1 (by omega) h⟩
      case measure=>have e2:=(HR.out.set2 (.int .i64 ((n:Int)+1))).x2;simp only[x2,e2,Option.getD_some,intOf];omega
     |false=>
      rw[hG] at H5
      have HP:Hid (isWd d=false):=Lib.hid (by unfold isWd;rw[hL,hG];rfl)
      clear hL hG
      have HE:Hid (i+runL isWd (s.data.toList.drop i)=n):=Lib.hid (run_to (by omega) (by rw[HSD.out];exact hlt2) HA.out (by rw[HD.out (by rw[HSD.out];exact hlt2)];exact HP.out))
      have hsl:=piece_mid s i n (i:Int) (n:Int) rfl rfl (by omega) (by omega)
      have HK:=Lib.hid (fun u=>refKeyword_any (B ((s.data.toList.drop i).take (n - i))) u)
      rw[bdata] at HK
      have hw:runL isWd (s.data.toList.drop i)=n - i:=by have:=HE.out;omega
      have HW3:=HW
      rw[hw] at HW3
      obtain⟨z,hz⟩:∃ z,kwOf ((s.data.toList.drop i).take (n - i))=z:=⟨_,rfl⟩
      obtain⟨x,hx⟩:∃ x,B ((s.data.toList.drop i).take (n - i))=x:=⟨_,rfl⟩
      rw[hz] at HK HW3
      rw[hx] at HK hsl
      have HE2:Hid ((i:Int)+((n - i:Nat):Int)=(n:Int)):=Lib.hid (by omega)
      clear hz hx hw HW HE HA
      by_cases hz0:z=0
      ·subst hz0
       rw[if_pos rfl] at HW3
       have bz:((0:Int) == 0)=true:=rfl
       go_wp2_with (first|(go_at_call 147;refine(H3.out _).mono ?_;rintro e w' ⟨rfl,rfl⟩)|(go_at_call 148;refine(H5.out _).mono ?_;rintro e w' ⟨rfl,rfl⟩)|(go_at_call 149;refine(HK.out _).mono ?_;rintro e W5 ⟨rfl,hb5⟩;have HG:=Lib.hid (HR.out.then hb5);clear k0 k1 k2 k3 k4 k5 f0 f1 f2 f3 f4 f5 x0 x1 x2 y0 y1 y2 g0 g1 g2 g3 g4 g5;clear hb5;obtain⟨⟨⟨u0,u1,u2,u3,u4,u5,k0,k1,k2,k3,k4,k5⟩,f0,f1,f2,f3,f4,f5⟩,x0,x1,x2,y0,y1,y2,⟨⟨g0,g1,g2⟩,g3,g4,g5⟩,_⟩:=HG.out))
       go_region
       go_wp2_with fail
       exact bodyPost_ret (results_drew Tryz.results134 _ (by repeat (first|exact HG.out.six|refine six_past ?_ (by omega) _)) (.int .i64 10) (.int .i64 (i:Int)) (.int .i64 (n:Int)) (.int .i64 0) (.int .i64 (i:Int)) (.int .i64 (n:Int)) rfl rfl) rfl (Told.mk' (x:=(i:Int)) (y:=(n:Int)) (by rw[HW3.out];simp only[right];rw[HE2.out]) (by rw[HW3.out];exact fun h=>absurd rfl h) (below_put6 (by repeat (first|exact HG.out.below|refine below_at ?_ (by omega) _)) (Nat.le_refl _) _ _ _ _ _ _).drew)
      ·rw[if_neg hz0] at HW3
       have bz:(z == 0)=false:=beq_eq_false_iff_ne.2 hz0
       go_wp2_with (first|(go_at_call 147;refine(H3.out _).mono ?_;rintro e w' ⟨rfl,rfl⟩)|(go_at_call 148;refine(H5.out _).mono ?_;rintro e w' ⟨rfl,rfl⟩)|(go_at_call 149;refine(HK.out _).mono ?_;rintro e W5 ⟨rfl,hb5⟩;have HG:=Lib.hid (HR.out.then hb5);clear k0 k1 k2 k3 k4 k5 f0 f1 f2 f3 f4 f5 x0 x1 x2 y0 y1 y2 g0 g1 g2 g3 g4 g5;clear hb5;obtain⟨⟨⟨u0,u1,u2,u3,u4,u5,k0,k1,k2,k3,k4,k5⟩,f0,f1,f2,f3,f4,f5⟩,x0,x1,x2,y0,y1,y2,⟨⟨g0,g1,g2⟩,g3,g4,g5⟩,_⟩:=HG.out))
       go_region
       go_wp2_with fail
       exact bodyPost_ret (results_drew Tryz.results134 _ (by repeat (first|exact HG.out.six|refine six_past ?_ (by omega) _)) (.int .i64 z) (.int .i64 (i:Int)) (.int .i64 (n:Int)) (.int .i64 0) (.int .i64 (i:Int)) (.int .i64 (n:Int)) rfl rfl) rfl (Told.mk' (x:=(i:Int)) (y:=(n:Int)) (by rw[HW3.out];simp only[right];rw[HE2.out]) (by rw[HW3.out];exact fun h=>absurd rfl h) (below_put6 (by repeat (first|exact HG.out.below|refine below_at ?_ (by omega) _)) (Nat.le_refl _) _ _ _ _ _ _).drew)
   ·have dlt:decide ((n:Int)<(s.size:Int))=false:=decide_eq_false (by omega)
    obtain rfl:n=s.size:=by omega
    have HE:Hid (i+runL isWd (s.data.toList.drop i)=s.size):=Lib.hid (by rw[run_end (by rw[HSD.out];omega) (fun j g1 h=>HA.out j g1 (by rw[HSD.out] at h;omega) h),HSD.out])
    have hsl:=piece_mid s i s.size (i:Int) (s.size:Int) rfl rfl (by omega) (by omega)
    have HK:=Lib.hid (fun u=>refKeyword_any (B ((s.data.toList.drop i).take (s.size - i))) u)
    rw[bdata] at HK
    have hw:runL isWd (s.data.toList.drop i)=s.size - i:=by have:=HE.out;omega
    have HW3:=HW
    rw[hw] at HW3
    obtain⟨z,hz⟩:∃ z,kwOf ((s.data.toList.drop i).take (s.size - i))=z:=⟨_,rfl⟩
    obtain⟨x,hx⟩:∃ x,B ((s.data.toList.drop i).take (s.size - i))=x:=⟨_,rfl⟩
    rw[hz] at HK HW3
    rw[hx] at HK hsl
    have HE2:Hid ((i:Int)+((s.size - i:Nat):Int)=(s.size:Int)):=Lib.hid (by omega)
    clear hz hx hw HW HE HA
    by_cases hz0:z=0
    ·subst hz0
     rw[if_pos rfl] at HW3
     have bz:((0:Int) == 0)=true:=rfl
     go_wp2_with (first|(go_at_call 149;refine(HK.out _).mono ?_;rintro e W5 ⟨rfl,hb5⟩;have HG:=Lib.hid (HR.out.then hb5);clear k0 k1 k2 k3 k4 k5 f0 f1 f2 f3 f4 f5 x0 x1 x2 y0 y1 y2 g0 g1 g2 g3 g4 g5;clear hb5;obtain⟨⟨⟨u0,u1,u2,u3,u4,u5,k0,k1,k2,k3,k4,k5⟩,f0,f1,f2,f3,f4,f5⟩,x0,x1,x2,y0,y1,y2,⟨⟨g0,g1,g2⟩,g3,g4,g5⟩,_⟩:=HG.out))
     go_region
     go_wp2_with fail
     exact bodyPost_ret (results_drew Tryz.results134 _ (by repeat (first|exact HG.out.six|refine six_past ?_ (by omega) _)) (.int .i64 10) (.int .i64 (i:Int)) (.int .i64 (s.size:Int)) (.int .i64 0) (.int .i64 (i:Int)) (.int .i64 (s.size:Int)) rfl rfl) rfl (Told.mk' (x:=(i:Int)) (y:=(s.size:Int)) (by rw[HW3.out];simp only[right];rw[HE2.out]) (by rw[HW3.out];exact fun h=>absurd rfl h) (below_put6 (by repeat (first|exact HG.out.below|refine below_at ?_ (by omega) _)) (Nat.le_refl _) _ _ _ _ _ _).drew)
    ·rw[if_neg hz0] at HW3
     have bz:(z == 0)=false:=beq_eq_false_iff_ne.2 hz0
     go_wp2_with (first|(go_at_call 149;refine(HK.out _).mono ?_;rintro e W5 ⟨rfl,hb5⟩;have HG:=Lib.hid (HR.out.then hb5);clear k0 k1 k2 k3 k4 k5 f0 f1 f2 f3 f4 f5 x0 x1 x2 y0 y1 y2 g0 g1 g2 g3 g4 g5;clear hb5;obtain⟨⟨⟨u0,u1,u2,u3,u4,u5,k0,k1,k2,k3,k4,k5⟩,f0,f1,f2,f3,f4,f5⟩,x0,x1,x2,y0,y1,y2,⟨⟨g0,g1,g2⟩,g3,g4,g5⟩,_⟩:=HG.out))
     go_region
     go_wp2_with fail
     exact bodyPost_ret (results_drew Tryz.results134 _ (by repeat (first|exact HG.out.six|refine six_past ?_ (by omega) _)) (.int .i64 z) (.int .i64 (i:Int)) (.int .i64 (s.size:Int)) (.int .i64 0) (.int .i64 (i:Int)) (.int .i64 (s.size:Int)) rfl rfl) rfl (Told.mk' (x:=(i:Int)) (y:=(s.size:Int)) (by rw[HW3.out];simp only[right];rw[HE2.out]) (by rw[HW3.out];exact fun h=>absurd rfl h) (below_put6 (by repeat (first|exact HG.out.below|refine below_at ?_ (by omega) _)) (Nat.le_refl _) _ _ _ _ _ _).drew)
 ·have b1:((i:Int) == 0)=true:=beq_iff_eq.2 (by omega)
  have d3:decide (3≤(s.size:Int))=false:=decide_eq_false (by omega)
  clear h1 h3
  go_enter Tryz.func134,Tryz.ntmps134
  go_wp2_with (first|(go_at_call 146;refine(H2.out _).mono ?_;rintro e W ⟨rfl,hbW⟩;have HF:=Lib.hid ((four_new w (.int .i64 0) (.int .i64 (i:Int)) (.int .i64 ((i:Int)+1)) (.int .i64 0) (.int .i64 (i:Int)) (.int .i64 0)).then hbW);obtain⟨⟨⟨u0,u1,u2,u3,u4,u5,k0,k1,k2,k3,k4,k5⟩,f0,f1,f2,f3,f4,f5⟩,x0,x1,x2,y0,y1,y2,⟨⟨g0,g1,g2⟩,g3,g4,g5⟩,_⟩:=HF.out;clear hbW)|(go_at_call 147;refine(H6.out _).mono ?_;rintro e w' ⟨rfl,rfl⟩))
  have HF1:=Lib.hid (HF.out)
  have e1:((i:Int)+1)=((i+1:Nat):Int):=by omega
  have HF2:=HF1
  rw[e1] at HF2
  clear k0 k1 k2 k3 k4 k5 f0 f1 f2 f3 f4 f5 x0 x1 x2 y0 y1 y2 g0 g1 g2 g3 g4 g5
  go_loopw [] (fun wr=>∃ n:Nat,i<n∧n≤s.size∧Four w wr (.int .i64 0) (.int .i64 (i:Int)) (.int .i64 (n:Int)) (.int .i64 0) (.int .i64 (i:Int)) (.int .i64 0)∧∀ j,i≤j→j<n→∀ h:j<s.data.toList.length,isWd s.data.toList[j]=true) (fun wr=>s.size - (intOf ((wr.cell? ⟨w.heap.size+1+1,2,none⟩).getD undef)).toNat)
  case atStart=>exact⟨i+1,by omega,by omega,HF2.out,fun j g1 g2 h=>by
           obtain rfl:j=i:=by omega
           exact HC.out h⟩
  case round=>
   obtain⟨n,hn1,hn2,hfo,hall⟩:=hrel
   have HR:=Lib.hid hfo
   have HA:=Lib.hid hall
   clear hfo hall HF HF1 HF2 e1
   obtain⟨⟨⟨u0,u1,u2,u3,u4,u5,k0,k1,k2,k3,k4,k5⟩,f0,f1,f2,f3,f4,f5⟩,x0,x1,x2,y0,y1,y2,⟨⟨g0,g1,g2⟩,g3,g4,g5⟩,_⟩:=HR.out
   by_cases hlt2:n<s.size
   ·obtain⟨d,hd⟩:∃ d,s[n]'hlt2=d:=⟨_,rfl⟩
    have hixn:∀ u:World,(Instr.index 9 (.string s) (.int .i64 (n:Int))).run Tryz.prog u=.ok (.int .u8 (d.toNat:Int)) u:=fun u=>by rw[← hd];exact index_at s _ n rfl hlt2 u
    have HD:Hid (∀ h:n<s.data.toList.length,s.data.toList[n]=d):=Lib.hid (fun _=>by rw[← hd];rfl)
    have dlt:decide ((n:Int)<(s.size:Int))=true:=decide_eq_true (by omega)
    clear hd
    cases hL:isLt d with
    |true=>
     have H3:=Lib.hid (fun u=>refLetter_any d u)
     rw[hL] at H3
     have HP:Hid (isWd d=true):=Lib.hid (by unfold isWd;rw[hL];rfl)
     clear hL
     go_wp2_with (go_at_call 147;refine(H3.out _).mono ?_;rintro e w' ⟨rfl,rfl⟩)
     go_roundw
     case rel=>exact⟨n+1,by omega,by omega,by have:=HR.out.set2 (.int .i64 ((n+1:Nat):Int));exact this,fun j g1 g2 h=>by
            by_cases e:j=n
            ·subst e;rw[HD.out h];exact HP.out
            ·exact HA.out j g1 (by omega) h⟩
     case measure=>have e2:=(HR.out.set2 (.int .i64 ((n:Int)+1))).x2;simp only[x2,e2,Option.getD_some,intOf];omega
    |false=>
     have H3:=Lib.hid (fun u=>refLetter_any d u)
     rw[hL] at H3
     have H5:=Lib.hid (fun u=>refDigit_any d u)
     cases hG:isDg d with
     |true=>
      rw[hG] at H5
      have HP:Hid (isWd d=true):=Lib.hid (by unfold isWd;rw[hL,hG];rfl)
      clear hL hG
      go_wp2_with (first|(go_at_call 147;refine(H3.out _).mono ?_;rintro e w' ⟨rfl,rfl⟩)|(go_at_call 148;refine(H5.out _).mono ?_;rintro e w' ⟨rfl,rfl⟩))
      go_roundw
      case rel=>exact⟨n+1,by omega,by omega,by have:=HR.out.set2 (.int .i64 ((n+1:Nat):Int));exact this,fun j g1 g2 h=>by
             by_cases e:j=n
             ·subst e;rw[HD.out h];exact HP.out
             ·exact HA.out j g1 (by omega) h⟩
      case measure=>have e2:=(HR.out.set2 (.int .i64 ((n:Int)+1))).x2;simp only[x2,e2,Option.getD_some,intOf];omega
     |false=>
      rw[hG] at H5
      have HP:Hid (isWd d=false):=Lib.hid (by unfold isWd;rw[hL,hG];rfl)
      clear hL hG
      have HE:Hid (i+runL isWd (s.data.toList.drop i)=n):=Lib.hid (run_to (by omega) (by rw[HSD.out];exact hlt2) HA.out (by rw[HD.out (by rw[HSD.out];exact hlt2)];exact HP.out))
      have hsl:=piece_mid s i n (i:Int) (n:Int) rfl rfl (by omega) (by omega)
      have HK:=Lib.hid (fun u=>refKeyword_any (B ((s.data.toList.drop i).take (n - i))) u)
      rw[bdata] at HK
      have hw:runL isWd (s.data.toList.drop i)=n - i:=by have:=HE.out;omega
      have HW3:=HW
      rw[hw] at HW3
      obtain⟨z,hz⟩:∃ z,kwOf ((s.data.toList.drop i).take (n - i))=z:=⟨_,rfl⟩
      obtain⟨x,hx⟩:∃ x,B ((s.data.toList.drop i).take (n - i))=x:=⟨_,rfl⟩
      rw[hz] at HK HW3
      rw[hx] at HK hsl
      have HE2:Hid ((i:Int)+((n - i:Nat):Int)=(n:Int)):=Lib.hid (by omega)
      clear hz hx hw HW HE HA
      by_cases hz0:z=0
      ·subst hz0
       rw[if_pos rfl] at HW3
       have bz:((0:Int) == 0)=true:=rfl
       go_wp2_with (first|(go_at_call 147;refine(H3.out _).mono ?_;rintro e w' ⟨rfl,rfl⟩)|(go_at_call 148;refine(H5.out _).mono ?_;rintro e w' ⟨rfl,rfl⟩)|(go_at_call 149;refine(HK.out _).mono ?_;rintro e W5 ⟨rfl,hb5⟩;have HG:=Lib.hid (HR.out.then hb5);clear k0 k1 k2 k3 k4 k5 f0 f1 f2 f3 f4 f5 x0 x1 x2 y0 y1 y2 g0 g1 g2 g3 g4 g5;clear hb5;obtain⟨⟨⟨u0,u1,u2,u3,u4,u5,k0,k1,k2,k3,k4,k5⟩,f0,f1,f2,f3,f4,f5⟩,x0,x1,x2,y0,y1,y2,⟨⟨g0,g1,g2⟩,g3,g4,g5⟩,_⟩:=HG.out))
       go_region
       go_wp2_with fail
       exact bodyPost_ret (results_drew Tryz.results134 _ (by repeat (first|exact HG.out.six|refine six_past ?_ (by omega) _)) (.int .i64 10) (.int .i64 (i:Int)) (.int .i64 (n:Int)) (.int .i64 0) (.int .i64 (i:Int)) (.int .i64 (n:Int)) rfl rfl) rfl (Told.mk' (x:=(i:Int)) (y:=(n:Int)) (by rw[HW3.out];simp only[right];rw[HE2.out]) (by rw[HW3.out];exact fun h=>absurd rfl h) (below_put6 (by repeat (first|exact HG.out.below|refine below_at ?_ (by omega) _)) (Nat.le_refl _) _ _ _ _ _ _).drew)
      ·rw[if_neg hz0] at HW3
       have bz:(z == 0)=false:=beq_eq_false_iff_ne.2 hz0
       go_wp2_with (first|(go_at_call 147;refine(H3.out _).mono ?_;rintro e w' ⟨rfl,rfl⟩)|(go_at_call 148;refine(H5.out _).mono ?_;rintro e w' ⟨rfl,rfl⟩)|(go_at_call 149;refine(HK.out _).mono ?_;rintro e W5 ⟨rfl,hb5⟩;have HG:=Lib.hid (HR.out.then hb5);clear k0 k1 k2 k3 k4 k5 f0 f1 f2 f3 f4 f5 x0 x1 x2 y0 y1 y2 g0 g1 g2 g3 g4 g5;clear hb5;obtain⟨⟨⟨u0,u1,u2,u3,u4,u5,k0,k1,k2,k3,k4,k5⟩,f0,f1,f2,f3,f4,f5⟩,x0,x1,x2,y0,y1,y2,⟨⟨g0,g1,g2⟩,g3,g4,g5⟩,_⟩:=HG.out))
       go_region
       go_wp2_with fail
       exact bodyPost_ret (results_drew Tryz.results134 _ (by repeat (first|exact HG.out.six|refine six_past ?_ (by omega) _)) (.int .i64 z) (.int .i64 (i:Int)) (.int .i64 (n:Int)) (.int .i64 0) (.int .i64 (i:Int)) (.int .i64 (n:Int)) rfl rfl) rfl (Told.mk' (x:=(i:Int)) (y:=(n:Int)) (by rw[HW3.out];simp only[right];rw[HE2.out]) (by rw[HW3.out];exact fun h=>absurd rfl h) (below_put6 (by repeat (first|exact HG.out.below|refine below_at ?_ (by omega) _)) (Nat.le_refl _) _ _ _ _ _ _).drew)
   ·have dlt:decide ((n:Int)<(s.size:Int))=false:=decide_eq_false (by omega)
    obtain rfl:n=s.size:=by omega
    have HE:Hid (i+runL isWd (s.data.toList.drop i)=s.size):=Lib.hid (by rw[run_end (by rw[HSD.out];omega) (fun j g1 h=>HA.out j g1 (by rw[HSD.out] at h;omega) h),HSD.out])
    have hsl:=piece_mid s i s.size (i:Int) (s.size:Int) rfl rfl (by omega) (by omega)
    have HK:=Lib.hid (fun u=>refKeyword_any (B ((s.data.toList.drop i).take (s.size - i))) u)
    rw[bdata] at HK
    have hw:runL isWd (s.data.toList.drop i)=s.size - i:=by have:=HE.out;omega
    have HW3:=HW
    rw[hw] at HW3
    obtain⟨z,hz⟩:∃ z,kwOf ((s.data.toList.drop i).take (s.size - i))=z:=⟨_,rfl⟩
    obtain⟨x,hx⟩:∃ x,B ((s.data.toList.drop i).take (s.size - i))=x:=⟨_,rfl⟩
    rw[hz] at HK HW3
    rw[hx] at HK hsl
    have HE2:Hid ((i:Int)+((s.size - i:Nat):Int)=(s.size:Int)):=Lib.hid (by omega)
    clear hz hx hw HW HE HA
    by_cases hz0:z=0
    ·subst hz0
     rw[if_pos rfl] at HW3
     have bz:((0:Int) == 0)=true:=rfl
     go_wp2_with (first|(go_at_call 149;refine(HK.out _).mono ?_;rintro e W5 ⟨rfl,hb5⟩;have HG:=Lib.hid (HR.out.then hb5);clear k0 k1 k2 k3 k4 k5 f0 f1 f2 f3 f4 f5 x0 x1 x2 y0 y1 y2 g0 g1 g2 g3 g4 g5;clear hb5;obtain⟨⟨⟨u0,u1,u2,u3,u4,u5,k0,k1,k2,k3,k4,k5⟩,f0,f1,f2,f3,f4,f5⟩,x0,x1,x2,y0,y1,y2,⟨⟨g0,g1,g2⟩,g3,g4,g5⟩,_⟩:=HG.out))
     go_region
     go_wp2_with fail
     exact bodyPost_ret (results_drew Tryz.results134 _ (by repeat (first|exact HG.out.six|refine six_past ?_ (by omega) _)) (.int .i64 10) (.int .i64 (i:Int)) (.int .i64 (s.size:Int)) (.int .i64 0) (.int .i64 (i:Int)) (.int .i64 (s.size:Int)) rfl rfl) rfl (Told.mk' (x:=(i:Int)) (y:=(s.size:Int)) (by rw[HW3.out];simp only[right];rw[HE2.out]) (by rw[HW3.out];exact fun h=>absurd rfl h) (below_put6 (by repeat (first|exact HG.out.below|refine below_at ?_ (by omega) _)) (Nat.le_refl _) _ _ _ _ _ _).drew)
    ·rw[if_neg hz0] at HW3
     have bz:(z == 0)=false:=beq_eq_false_iff_ne.2 hz0
     go_wp2_with (first|(go_at_call 149;refine(HK.out _).mono ?_;rintro e W5 ⟨rfl,hb5⟩;have HG:=Lib.hid (HR.out.then hb5);clear k0 k1 k2 k3 k4 k5 f0 f1 f2 f3 f4 f5 x0 x1 x2 y0 y1 y2 g0 g1 g2 g3 g4 g5;clear hb5;obtain⟨⟨⟨u0,u1,u2,u3,u4,u5,k0,k1,k2,k3,k4,k5⟩,f0,f1,f2,f3,f4,f5⟩,x0,x1,x2,y0,y1,y2,⟨⟨g0,g1,g2⟩,g3,g4,g5⟩,_⟩:=HG.out))
     go_region
     go_wp2_with fail
     exact bodyPost_ret (results_drew Tryz.results134 _ (by repeat (first|exact HG.out.six|refine six_past ?_ (by omega) _)) (.int .i64 z) (.int .i64 (i:Int)) (.int .i64 (s.size:Int)) (.int .i64 0) (.int .i64 (i:Int)) (.int .i64 (s.size:Int)) rfl rfl) rfl (Told.mk' (x:=(i:Int)) (y:=(s.size:Int)) (by rw[HW3.out];simp only[right];rw[HE2.out]) (by rw[HW3.out];exact fun h=>absurd rfl h) (below_put6 (by repeat (first|exact HG.out.below|refine below_at ?_ (by omega) _)) (Nat.le_refl _) _ _ _ _ _ _).drew)
 ·have b1:((i:Int) == 0)=true:=beq_iff_eq.2 (by omega)
  have d3:decide (3≤(s.size:Int))=true:=decide_eq_true (by omega)
  have hsl3:=slice_to s 3 3 rfl h3
  obtain⟨x3,hx3⟩:∃ x,B (s.data.toList.take 3)=x:=⟨_,rfl⟩
  rw[hx3] at h4 hsl3
  clear h1 h3 hx3
  go_enter Tryz.func134,Tryz.ntmps134
  go_wp2_with (first|(go_at_call 146;refine(H2.out _).mono ?_;rintro e W ⟨rfl,hbW⟩;have HF:=Lib.hid ((four_new w (.int .i64 0) (.int .i64 (i:Int)) (.int .i64 ((i:Int)+1)) (.int .i64 0) (.int .i64 (i:Int)) (.int .i64 0)).then hbW);obtain⟨⟨⟨u0,u1,u2,u3,u4,u5,k0,k1,k2,k3,k4,k5⟩,f0,f1,f2,f3,f4,f5⟩,x0,x1,x2,y0,y1,y2,⟨⟨g0,g1,g2⟩,g3,g4,g5⟩,_⟩:=HF.out;clear hbW)|(go_at_call 147;refine(H6.out _).mono ?_;rintro e w' ⟨rfl,rfl⟩))
  have HF1:=Lib.hid (HF.out)
  have e1:((i:Int)+1)=((i+1:Nat):Int):=by omega
  have HF2:=HF1
  rw[e1] at HF2
  clear k0 k1 k2 k3 k4 k5 f0 f1 f2 f3 f4 f5 x0 x1 x2 y0 y1 y2 g0 g1 g2 g3 g4 g5
  go_loopw [] (fun wr=>∃ n:Nat,i<n∧n≤s.size∧Four w wr (.int .i64 0) (.int .i64 (i:Int)) (.int .i64 (n:Int)) (.int .i64 0) (.int .i64 (i:Int)) (.int .i64 0)∧∀ j,i≤j→j<n→∀ h:j<s.data.toList.length,isWd s.data.toList[j]=true) (fun wr=>s.size - (intOf ((wr.cell? ⟨w.heap.size+1+1,2,none⟩).getD undef)).toNat)
  case atStart=>exact⟨i+1,by omega,by omega,HF2.out,fun j g1 g2 h=>by
           obtain rfl:j=i:=by omega
           exact HC.out h⟩
  case round=>
   obtain⟨n,hn1,hn2,hfo,hall⟩:=hrel
   have HR:=Lib.hid hfo
   have HA:=Lib.hid hall
   clear hfo hall HF HF1 HF2 e1
   obtain⟨⟨⟨u0,u1,u2,u3,u4,u5,k0,k1,k2,k3,k4,k5⟩,f0,f1,f2,f3,f4,f5⟩,x0,x1,x2,y0,y1,y2,⟨⟨g0,g1,g2⟩,g3,g4,g5⟩,_⟩:=HR.out
   by_cases hlt2:n<s.size
   ·obtain⟨d,hd⟩:∃ d,s[n]'hlt2=d:=⟨_,rfl⟩
    have hixn:∀ u:World,(Instr.index 9 (.string s) (.int .i64 (n:Int))).run Tryz.prog u=.ok (.int .u8 (d.toNat:Int)) u:=fun u=>by rw[← hd];exact index_at s _ n rfl hlt2 u
    have HD:Hid (∀ h:n<s.data.toList.length,s.data.toList[n]=d):=Lib.hid (fun _=>by rw[← hd];rfl)
    have dlt:decide ((n:Int)<(s.size:Int))=true:=decide_eq_true (by omega)
    clear hd
    cases hL:isLt d with
    |true=>
     have H3:=Lib.hid (fun u=>refLetter_any d u)
     rw[hL] at H3
     have HP:Hid (isWd d=true):=Lib.hid (by unfold isWd;rw[hL];rfl)
     clear hL
     go_wp2_with (go_at_call 147;refine(H3.out _).mono ?_;rintro e w' ⟨rfl,rfl⟩)
     go_roundw
     case rel=>exact⟨n+1,by omega,by omega,by have:=HR.out.set2 (.int .i64 ((n+1:Nat):Int));exact this,fun j g1 g2 h=>by
            by_cases e:j=n
            ·subst e;rw[HD.out h];exact HP.out
            ·exact HA.out j g1 (by omega) h⟩
     case measure=>have e2:=(HR.out.set2 (.int .i64 ((n:Int)+1))).x2;simp only[x2,e2,Option.getD_some,intOf];omega
    |false=>
     have H3:=Lib.hid (fun u=>refLetter_any d u)
     rw[hL] at H3
     have H5:=Lib.hid (fun u=>refDigit_any d u)
     cases hG:isDg d with
     |true=>
      rw[hG] at H5
      have HP:Hid (isWd d=true):=Lib.hid (by unfold isWd;rw[hL,hG];rfl)
      clear hL hG
      go_wp2_with (first|(go_at_call 147;refine(H3.out _).mono ?_;rintro e w' ⟨rfl,rfl⟩)|(go_at_call 148;refine(H5.out _).mono ?_;rintro e w' ⟨rfl,rfl⟩))
      go_roundw
      case rel=>exact⟨n+1,by omega,by omega,by have:=HR.out.set2 (.int .i64 ((n+1:Nat):Int));exact this,fun j g1 g2 h=>by
             by_cases e:j=n
             ·subst e;rw[HD.out h];exact HP.out
             ·exact HA.out j g1 (by omega) h⟩
      case measure=>have e2:=(HR.out.set2 (.int .i64 ((n:Int)+1))).x2;simp only[x2,e2,Option.getD_some,intOf];omega
     |false=>
      rw[hG] at H5
      have HP:Hid (isWd d=false):=Lib.hid (by unfold isWd;rw[hL,hG];rfl)
      clear hL hG
      have HE:Hid (i+runL isWd (s.data.toList.drop i)=n):=Lib.hid (run_to (by omega) (by rw[HSD.out];exact hlt2) HA.out (by rw[HD.out (by rw[HSD.out];exact hlt2)];exact HP.out))
      have hsl:=piece_mid s i n (i:Int) (n:Int) rfl rfl (by omega) (by omega)
      have HK:=Lib.hid (fun u=>refKeyword_any (B ((s.data.toList.drop i).take (n - i))) u)
      rw[bdata] at HK
      have hw:runL isWd (s.data.toList.drop i)=n - i:=by have:=HE.out;omega
      have HW3:=HW
      rw[hw] at HW3
      obtain⟨z,hz⟩:∃ z,kwOf ((s.data.toList.drop i).take (n - i))=z:=⟨_,rfl⟩
      obtain⟨x,hx⟩:∃ x,B ((s.data.toList.drop i).take (n - i))=x:=⟨_,rfl⟩
      rw[hz] at HK HW3
      rw[hx] at HK hsl
      have HE2:Hid ((i:Int)+((n - i:Nat):Int)=(n:Int)):=Lib.hid (by omega)
      clear hz hx hw HW HE HA
      by_cases hz0:z=0
      ·subst hz0
       rw[if_pos rfl] at HW3
       have bz:((0:Int) == 0)=true:=rfl
       go_wp2_with (first|(go_at_call 147;refine(H3.out _).mono ?_;rintro e w' ⟨rfl,rfl⟩)|(go_at_call 148;refine(H5.out _).mono ?_;rintro e w' ⟨rfl,rfl⟩)|(go_at_call 149;refine(HK.out _).mono ?_;rintro e W5 ⟨rfl,hb5⟩;have HG:=Lib.hid (HR.out.then hb5);clear k0 k1 k2 k3 k4 k5 f0 f1 f2 f3 f4 f5 x0 x1 x2 y0 y1 y2 g0 g1 g2 g3 g4 g5;clear hb5;obtain⟨⟨⟨u0,u1,u2,u3,u4,u5,k0,k1,k2,k3,k4,k5⟩,f0,f1,f2,f3,f4,f5⟩,x0,x1,x2,y0,y1,y2,⟨⟨g0,g1,g2⟩,g3,g4,g5⟩,_⟩:=HG.out))
       go_region
       go_wp2_with fail
       exact bodyPost_ret (results_drew Tryz.results134 _ (by repeat (first|exact HG.out.six|refine six_past ?_ (by omega) _)) (.int .i64 10) (.int .i64 (i:Int)) (.int .i64 (n:Int)) (.int .i64 0) (.int .i64 (i:Int)) (.int .i64 (n:Int)) rfl rfl) rfl (Told.mk' (x:=(i:Int)) (y:=(n:Int)) (by rw[HW3.out];simp only[right];rw[HE2.out]) (by rw[HW3.out];exact fun h=>absurd rfl h) (below_put6 (by repeat (first|exact HG.out.below|refine below_at ?_ (by omega) _)) (Nat.le_refl _) _ _ _ _ _ _).drew)
      ·rw[if_neg hz0] at HW3
       have bz:(z == 0)=false:=beq_eq_false_iff_ne.2 hz0
       go_wp2_with (first|(go_at_call 147;refine(H3.out _).mono ?_;rintro e w' ⟨rfl,rfl⟩)|(go_at_call 148;refine(H5.out _).mono ?_;rintro e w' ⟨rfl,rfl⟩)|(go_at_call 149;refine(HK.out _).mono ?_;rintro e W5 ⟨rfl,hb5⟩;have HG:=Lib.hid (HR.out.then hb5);clear k0 k1 k2 k3 k4 k5 f0 f1 f2 f3 f4 f5 x0 x1 x2 y0 y1 y2 g0 g1 g2 g3 g4 g5;clear hb5;obtain⟨⟨⟨u0,u1,u2,u3,u4,u5,k0,k1,k2,k3,k4,k5⟩,f0,f1,f2,f3,f4,f5⟩,x0,x1,x2,y0,y1,y2,⟨⟨g0,g1,g2⟩,g3,g4,g5⟩,_⟩:=HG.out))
       go_region
       go_wp2_with fail
       exact bodyPost_ret (results_drew Tryz.results134 _ (by repeat (first|exact HG.out.six|refine six_past ?_ (by omega) _)) (.int .i64 z) (.int .i64 (i:Int)) (.int .i64 (n:Int)) (.int .i64 0) (.int .i64 (i:Int)) (.int .i64 (n:Int)) rfl rfl) rfl (Told.mk' (x:=(i:Int)) (y:=(n:Int)) (by rw[HW3.out];simp only[right];rw[HE2.out]) (by rw[HW3.out];exact fun h=>absurd rfl h) (below_put6 (by repeat (first|exact HG.out.below|refine below_at ?_ (by omega) _)) (Nat.le_refl _) _ _ _ _ _ _).drew)
   ·have dlt:decide ((n:Int)<(s.size:Int))=false:=decide_eq_false (by omega)
    obtain rfl:n=s.size:=by omega
    have HE:Hid (i+runL isWd (s.data.toList.drop i)=s.size):=Lib.hid (by rw[run_end (by rw[HSD.out];omega) (fun j g1 h=>HA.out j g1 (by rw[HSD.out] at h;omega) h),HSD.out])
    have hsl:=piece_mid s i s.size (i:Int) (s.size:Int) rfl rfl (by omega) (by omega)
    have HK:=Lib.hid (fun u=>refKeyword_any (B ((s.data.toList.drop i).take (s.size - i))) u)
    rw[bdata] at HK
    have hw:runL isWd (s.data.toList.drop i)=s.size - i:=by have:=HE.out;omega
    have HW3:=HW
    rw[hw] at HW3
    obtain⟨z,hz⟩:∃ z,kwOf ((s.data.toList.drop i).take (s.size - i))=z:=⟨_,rfl⟩
    obtain⟨x,hx⟩:∃ x,B ((s.data.toList.drop i).take (s.size - i))=x:=⟨_,rfl⟩
    rw[hz] at HK HW3
    rw[hx] at HK hsl
    have HE2:Hid ((i:Int)+((s.size - i:Nat):Int)=(s.size:Int)):=Lib.hid (by omega)
    clear hz hx hw HW HE HA
    by_cases hz0:z=0
    ·subst hz0
     rw[if_pos rfl] at HW3
     have bz:((0:Int) == 0)=true:=rfl
     go_wp2_with (first|(go_at_call 149;refine(HK.out _).mono ?_;rintro e W5 ⟨rfl,hb5⟩;have HG:=Lib.hid (HR.out.then hb5);clear k0 k1 k2 k3 k4 k5 f0 f1 f2 f3 f4 f5 x0 x1 x2 y0 y1 y2 g0 g1 g2 g3 g4 g5;clear hb5;obtain⟨⟨⟨u0,u1,u2,u3,u4,u5,k0,k1,k2,k3,k4,k5⟩,f0,f1,f2,f3,f4,f5⟩,x0,x1,x2,y0,y1,y2,⟨⟨g0,g1,g2⟩,g3,g4,g5⟩,_⟩:=HG.out))
     go_region
     go_wp2_with fail
     exact bodyPost_ret (results_drew Tryz.results134 _ (by repeat (first|exact HG.out.six|refine six_past ?_ (by omega) _)) (.int .i64 10) (.int .i64 (i:Int)) (.int .i64 (s.size:Int)) (.int .i64 0) (.int .i64 (i:Int)) (.int .i64 (s.size:Int)) rfl rfl) rfl (Told.mk' (x:=(i:Int)) (y:=(s.size:Int)) (by rw[HW3.out];simp only[right];rw[HE2.out]) (by rw[HW3.out];exact fun h=>absurd rfl h) (below_put6 (by repeat (first|exact HG.out.below|refine below_at ?_ (by omega) _)) (Nat.le_refl _) _ _ _ _ _ _).drew)
    ·rw[if_neg hz0] at HW3
     have bz:(z == 0)=false:=beq_eq_false_iff_ne.2 hz0
     go_wp2_with (first|(go_at_call 149;refine(HK.out _).mono ?_;rintro e W5 ⟨rfl,hb5⟩;have HG:=Lib.hid (HR.out.then hb5);clear k0 k1 k2 k3 k4 k5 f0 f1 f2 f3 f4 f5 x0 x1 x2 y0 y1 y2 g0 g1 g2 g3 g4 g5;clear hb5;obtain⟨⟨⟨u0,u1,u2,u3,u4,u5,k0,k1,k2,k3,k4,k5⟩,f0,f1,f2,f3,f4,f5⟩,x0,x1,x2,y0,y1,y2,⟨⟨g0,g1,g2⟩,g3,g4,g5⟩,_⟩:=HG.out))
     go_region
     go_wp2_with fail
     exact bodyPost_ret (results_drew Tryz.results134 _ (by repeat (first|exact HG.out.six|refine six_past ?_ (by omega) _)) (.int .i64 z) (.int .i64 (i:Int)) (.int .i64 (s.size:Int)) (.int .i64 0) (.int .i64 (i:Int)) (.int .i64 (s.size:Int)) rfl rfl) rfl (Told.mk' (x:=(i:Int)) (y:=(s.size:Int)) (by rw[HW3.out];simp only[right];rw[HE2.out]) (by rw[HW3.out];exact fun h=>absurd rfl h) (below_put6 (by repeat (first|exact HG.out.below|refine below_at ?_ (by omega) _)) (Nat.le_refl _) _ _ _ _ _ _).drew)
end Go.Proofs.YtcekbbkidipbnaaGreat.lx
