/-
  Texts put together: Rbh, Rbi, Rbj, Rbk, Rbl, Rbm.
-/
import Derived.Test.YtcekbbkidipbnaaGreatL37
import Derived.Test.YtcekbbkidipbnaaGreatL38
set_option maxRecDepth 100000
set_option maxHeartbeats 8000000
namespace Go.Proofs.YtcekbbkidipbnaaGreat.lx
open Go.RowKit Go.Proofs.YtcekbbkidipbnaaGreat.tok
theorem closed_is (kind code:Int) (n:Nat) (clo l:List UInt8) (i:Nat) (h0:0<clo.length) :
  closedL kind code n clo (l.drop i)=if findL l (i+n) clo=l.length then wrong kind (l.length - i) code else right kind (findL l (i+n) clo+clo.length - i):=by
 unfold closedL findL
 rw[List.drop_drop,List.length_drop]
 by_cases h:Lib.index (l.drop (i+n)) clo<0
 ·rw[if_pos h,if_pos h,if_pos rfl]
 ·have hr:=Lib.index_room (l.drop (i+n)) clo (by omega)
  rw[List.length_drop] at hr
  rw[if_neg h,if_neg h,if_neg (by omega)]
  congr 1
  omega
theorem find_room (l q:List UInt8) (i:Nat) (hi:i≤l.length) (h:findL l i q≠l.length):findL l i q+q.length≤l.length:=by
 unfold findL at h ⊢
 by_cases g:Lib.index (l.drop i) q<0
 ·rw[if_pos g] at h;exact absurd rfl h
 ·rw[if_neg g]
  have hr:=Lib.index_room (l.drop i) q (by omega)
  rw[List.length_drop] at hr
  omega
theorem refFind_is (s q:ByteArray) (i t:Nat) (z:Int) (w:World) (hs:s.size≤4194304) (hq:q.size≤4) (hi:i≤s.size) (hz:z=(i:Int)) (ht:findL s.data.toList i q.data.toList=t) :
  Calls Tryz.prog 135 #[.string s,.int .i64 z,.string q] w fun e w'=>e=.returned (.int .i64 (t:Int))∧w=w':=by
 subst hz ht
 exact refFind_any s q i w hs hq hi
theorem refFind_then (s q:ByteArray) (i t:Nat) (z:Int) (w:World) (hs:s.size≤4194304) (hq:q.size≤4) (hi:i≤s.size) (hz:z=(i:Int)) (ht:findL s.data.toList i q.data.toList=t) :
  Calls Tryz.prog 135 #[.string s,.int .i64 z,.string q] w fun e w'=>e=.returned (.int .i64 (t:Int))∧Below w.heap.size w w':=by
 refine(refFind_is s q i t z w hs hq hi hz ht).mono ?_
 rintro e w' ⟨rfl,rfl⟩
 exact⟨rfl,Below.refl _ _⟩
open Go.RowKit Go.Proofs.YtcekbbkidipbnaaGreat.tok
theorem refNext_4 {s:ByteArray} {i:Nat} {c:UInt8} {w:World} (hlt:i<s.size) (hc:s[i]=c) (hs:s.size≤4194304) (m:Nx) (hm:m=right 3 (runL noFeed (s.data.toList.drop i))) (h1:i≠0∨Lib.hasPrefix s.data.toList mark=false) (h2:isBl c=false) (h3:c≠10) (h4:c=47) (h5:i+1<s.size) (h6:s[i+1]=47) :
  Calls Tryz.prog 134 #[.string s,.int .i64 (i:Int)] w (Told m i w):=by
 have HW:=Lib.hid hm
 have HSD:=Lib.hid (sdata s)
 have hix:∀ u:World,(Instr.index 9 (.string s) (.int .i64 (i:Int))).run Tryz.prog u=.ok (.int .u8 (c.toNat:Int)) u:=fun u=>by rw[← hc];exact index_at s _ i rfl hlt u
 have H2:=Lib.hid (fun u=>refBlank_then c u)
 rw[h2] at H2
 have b10:((c.toNat:Int) == 10)=false:=byte_ne (d:=10) h3
 have b47:((c.toNat:Int) == 47)=true:=byte_eq (d:=47) h4
 have dl1:decide ((i:Int)+1<(s.size:Int))=true:=decide_eq_true (by omega)
 obtain⟨d,hd⟩:∃ d,s[i+1]'h5=d:=⟨_,rfl⟩
 have hix1:∀ u:World,(Instr.index 9 (.string s) (.int .i64 ((i:Int)+1))).run Tryz.prog u=.ok (.int .u8 (d.toNat:Int)) u:=fun u=>by rw[← hd];exact index_at s _ (i+1) (by omega) h5 u
 rw[hd] at h6
 have bd:((d.toNat:Int) == 47)=true:=byte_eq (d:=47) h6
 obtain⟨t,ht⟩:∃ t,findL s.data.toList i [10]=t:=⟨_,rfl⟩
 have HFI:=Lib.hid (fun u=>refFind_is s ⟨#[10]⟩ i t (i:Int) u hs (by decide) (by omega) rfl ht)
 have HE:Hid (i+runL noFeed (s.data.toList.drop i)=t):=Lib.hid (by rw[← ht,find_feed _ _ (by rw[HSD.out];omega)])
 have htl:t≤s.size:=by have:=(find_le s.data.toList [10] i (by rw[HSD.out];omega)).2;rw[ht,HSD.out] at this;exact this
 clear h2 h3 hm hc h4 h6 hd ht
 rcases nm_cases h1 with h1|⟨h1,h3⟩|⟨h1,h3,h4⟩
 ·have b1:((i:Int) == 0)=false:=beq_eq_false_iff_ne.2 (by omega)
  clear h1
  go_enter Tryz.func134,Tryz.ntmps134
  go_wp2_with (first|(go_at_call 146;refine(H2.out _).mono ?_;rintro e W ⟨rfl,hbW⟩;have HF:=Lib.hid ((four_new w (.int .i64 0) (.int .i64 (i:Int)) (.int .i64 ((i:Int)+1)) (.int .i64 0) (.int .i64 (i:Int)) (.int .i64 0)).then hbW);obtain⟨⟨⟨u0,u1,u2,u3,u4,u5,k0,k1,k2,k3,k4,k5⟩,f0,f1,f2,f3,f4,f5⟩,x0,x1,x2,y0,y1,y2,⟨⟨g0,g1,g2⟩,g3,g4,g5⟩,_⟩:=HF.out;clear hbW)|(go_at_call 135;refine(HFI.out _).mono ?_;rintro e w' ⟨rfl,rfl⟩))
  go_region
  go_wp2_with fail
  exact bodyPost_ret (results_drew Tryz.results134 _ (by repeat (first|exact HF.out.six|refine six_past ?_ (by omega) _)) (.int .i64 3) (.int .i64 (i:Int)) (.int .i64 (t:Int)) (.int .i64 0) (.int .i64 (i:Int)) (.int .i64 (t:Int)) rfl rfl) rfl (Told.mk' (x:=(i:Int)) (y:=(t:Int)) (by rw[HW.out,show((i:Int)+((right 3 (runL noFeed (s.data.toList.drop i))).width:Int))=(t:Int) by have:=HE.out;simp only[right];omega];rfl) (by rw[HW.out];exact fun h=>absurd rfl h) (below_put6 (by repeat (first|exact HF.out.below|refine below_at ?_ (by omega) _)) (Nat.le_refl _) _ _ _ _ _ _).drew)
 ·have b1:((i:Int) == 0)=true:=beq_iff_eq.2 (by omega)
  have d3:decide (3≤(s.size:Int))=false:=decide_eq_false (by omega)
  clear h1 h3
  go_enter Tryz.func134,Tryz.ntmps134
  go_wp2_with (first|(go_at_call 146;refine(H2.out _).mono ?_;rintro e W ⟨rfl,hbW⟩;have HF:=Lib.hid ((four_new w (.int .i64 0) (.int .i64 (i:Int)) (.int .i64 ((i:Int)+1)) (.int .i64 0) (.int .i64 (i:Int)) (.int .i64 0)).then hbW);obtain⟨⟨⟨u0,u1,u2,u3,u4,u5,k0,k1,k2,k3,k4,k5⟩,f0,f1,f2,f3,f4,f5⟩,x0,x1,x2,y0,y1,y2,⟨⟨g0,g1,g2⟩,g3,g4,g5⟩,_⟩:=HF.out;clear hbW)|(go_at_call 135;refine(HFI.out _).mono ?_;rintro e w' ⟨rfl,rfl⟩))
  go_region
  go_wp2_with fail
  exact bodyPost_ret (results_drew Tryz.results134 _ (by repeat (first|exact HF.out.six|refine six_past ?_ (by omega) _)) (.int .i64 3) (.int .i64 (i:Int)) (.int .i64 (t:Int)) (.int .i64 0) (.int .i64 (i:Int)) (.int .i64 (t:Int)) rfl rfl) rfl (Told.mk' (x:=(i:Int)) (y:=(t:Int)) (by rw[HW.out,show((i:Int)+((right 3 (runL noFeed (s.data.toList.drop i))).width:Int))=(t:Int) by have:=HE.out;simp only[right];omega];rfl) (by rw[HW.out];exact fun h=>absurd rfl h) (below_put6 (by repeat (first|exact HF.out.below|refine below_at ?_ (by omega) _)) (Nat.le_refl _) _ _ _ _ _ _).drew)
 ·have b1:((i:Int) == 0)=true:=beq_iff_eq.2 (by omega)
  have d3:decide (3≤(s.size:Int))=true:=decide_eq_true (by omega)
  have hsl3:=slice_to s 3 3 rfl h3
  obtain⟨x3,hx3⟩:∃ x,B (s.data.toList.take 3)=x:=⟨_,rfl⟩
  rw[hx3] at h4 hsl3
  clear h1 h3 hx3
  go_enter Tryz.func134,Tryz.ntmps134
  go_wp2_with (first|(go_at_call 146;refine(H2.out _).mono ?_;rintro e W ⟨rfl,hbW⟩;have HF:=Lib.hid ((four_new w (.int .i64 0) (.int .i64 (i:Int)) (.int .i64 ((i:Int)+1)) (.int .i64 0) (.int .i64 (i:Int)) (.int .i64 0)).then hbW);obtain⟨⟨⟨u0,u1,u2,u3,u4,u5,k0,k1,k2,k3,k4,k5⟩,f0,f1,f2,f3,f4,f5⟩,x0,x1,x2,y0,y1,y2,⟨⟨g0,g1,g2⟩,g3,g4,g5⟩,_⟩:=HF.out;clear hbW)|(go_at_call 135;refine(HFI.out _).mono ?_;rintro e w' ⟨rfl,rfl⟩))
  go_region
  go_wp2_with fail
  exact bodyPost_ret (results_drew Tryz.results134 _ (by repeat (first|exact HF.out.six|refine six_past ?_ (by omega) _)) (.int .i64 3) (.int .i64 (i:Int)) (.int .i64 (t:Int)) (.int .i64 0) (.int .i64 (i:Int)) (.int .i64 (t:Int)) rfl rfl) rfl (Told.mk' (x:=(i:Int)) (y:=(t:Int)) (by rw[HW.out,show((i:Int)+((right 3 (runL noFeed (s.data.toList.drop i))).width:Int))=(t:Int) by have:=HE.out;simp only[right];omega];rfl) (by rw[HW.out];exact fun h=>absurd rfl h) (below_put6 (by repeat (first|exact HF.out.below|refine below_at ?_ (by omega) _)) (Nat.le_refl _) _ _ _ _ _ _).drew)
open Go.RowKit Go.Proofs.YtcekbbkidipbnaaGreat.tok
theorem refNext_5 {s:ByteArray} {i:Nat} {c:UInt8} {w:World} (hlt:i<s.size) (hc:s[i]=c) (hs:s.size≤4194304) (m:Nx) (hm:m=closedL 4 105 2 [42,47] (s.data.toList.drop i)) (h1:i≠0∨Lib.hasPrefix s.data.toList mark=false) (h2:isBl c=false) (h3:c≠10) (h4:c=47) (h5:i+1<s.size) (h6:s[i+1]=42) :
  Calls Tryz.prog 134 #[.string s,.int .i64 (i:Int)] w (Told m i w):=by
 have HW:=Lib.hid hm
 have HSD:=Lib.hid (sdata s)
 have hix:∀ u:World,(Instr.index 9 (.string s) (.int .i64 (i:Int))).run Tryz.prog u=.ok (.int .u8 (c.toNat:Int)) u:=fun u=>by rw[← hc];exact index_at s _ i rfl hlt u
 have H2:=Lib.hid (fun u=>refBlank_then c u)
 rw[h2] at H2
 have b10:((c.toNat:Int) == 10)=false:=byte_ne (d:=10) h3
 rw[closed_is 4 105 2 [42,47] s.data.toList i (by decide)] at HW
 obtain⟨t,ht⟩:∃ t,findL s.data.toList (i+2) [42,47]=t:=⟨_,rfl⟩
 have HFI:=Lib.hid (fun u=>refFind_then s ⟨#[42,47]⟩ (i+2) t ((i:Int)+2) u hs (by decide) (by omega) (by omega) ht)
 have hle:=find_le s.data.toList [42,47] (i+2) (by rw[HSD.out];omega)
 have hro:=find_room s.data.toList [42,47] (i+2) (by rw[HSD.out];omega)
 rw[ht,HSD.out] at HW hle hro
 have b47:((c.toNat:Int) == 47)=true:=byte_eq (d:=47) h4
 have dl1:decide ((i:Int)+1<(s.size:Int))=true:=decide_eq_true (by omega)
 obtain⟨d,hd⟩:∃ d,s[i+1]'h5=d:=⟨_,rfl⟩
 have hix1:∀ u:World,(Instr.index 9 (.string s) (.int .i64 ((i:Int)+1))).run Tryz.prog u=.ok (.int .u8 (d.toNat:Int)) u:=fun u=>by rw[← hd];exact index_at s _ (i+1) (by omega) h5 u
 rw[hd] at h6
 have bd:((d.toNat:Int) == 47)=false:=byte_ne (d:=47) (by rw[h6];decide)
 have bd2:((d.toNat:Int) == 42)=true:=byte_eq (d:=42) h6
 clear h2 h3 hm hc h4 h6 hd ht
 by_cases he:t=s.size
 ·have be:((t:Int) == (s.size:Int))=true:=beq_iff_eq.2 (by omega)
  rw[if_pos he] at HW
  have HE:Hid (i+(s.size - i)=t):=Lib.hid (by omega)
  clear hro he
  rcases nm_cases h1 with h1|⟨h1,h3⟩|⟨h1,h3,h4⟩
  ·have b1:((i:Int) == 0)=false:=beq_eq_false_iff_ne.2 (by omega)
   clear h1
   go_enter Tryz.func134,Tryz.ntmps134
   go_wp2_with (first|(go_at_call 146;refine(H2.out _).mono ?_;rintro e W ⟨rfl,hbW⟩;have HF:=Lib.hid ((four_new w (.int .i64 0) (.int .i64 (i:Int)) (.int .i64 ((i:Int)+1)) (.int .i64 0) (.int .i64 (i:Int)) (.int .i64 0)).then hbW);obtain⟨⟨⟨u0,u1,u2,u3,u4,u5,k0,k1,k2,k3,k4,k5⟩,f0,f1,f2,f3,f4,f5⟩,x0,x1,x2,y0,y1,y2,⟨⟨g0,g1,g2⟩,g3,g4,g5⟩,_⟩:=HF.out;clear hbW)|(go_at_call 135;refine(HFI.out _).mono ?_;rintro e W2 ⟨rfl,hb2⟩;have HG:=Lib.hid ((HF.out.set0 (.int .i64 4)).then hb2);clear k0 k1 k2 k3 k4 k5 f0 f1 f2 f3 f4 f5 x0 x1 x2 y0 y1 y2 g0 g1 g2 g3 g4 g5;clear hb2;obtain⟨⟨⟨u0,u1,u2,u3,u4,u5,k0,k1,k2,k3,k4,k5⟩,f0,f1,f2,f3,f4,f5⟩,x0,x1,x2,y0,y1,y2,⟨⟨g0,g1,g2⟩,g3,g4,g5⟩,_⟩:=HG.out))
   go_region
   go_wp2_with fail
   exact bodyPost_ret (results_drew Tryz.results134 _ (by repeat (first|exact HG.out.six|refine six_past ?_ (by omega) _)) (.int .i64 4) (.int .i64 (i:Int)) (.int .i64 (t:Int)) (.int .i64 105) (.int .i64 (i:Int)) (.int .i64 (t:Int)) rfl rfl) rfl (Told.mk' (x:=(i:Int)) (y:=(t:Int)) (by rw[HW.out,show((i:Int)+((wrong 4 (s.size - i) 105).width:Int))=(t:Int) by have:=HE.out;simp only[wrong];omega];rfl) (by rw[HW.out];exact fun _=>⟨by simp [wrong],by have:=HE.out;simp only[wrong];omega⟩) (below_put6 (by repeat (first|exact HG.out.below|refine below_at ?_ (by omega) _)) (Nat.le_refl _) _ _ _ _ _ _).drew)
  ·have b1:((i:Int) == 0)=true:=beq_iff_eq.2 (by omega)
   have d3:decide (3≤(s.size:Int))=false:=decide_eq_false (by omega)
   clear h1 h3
   go_enter Tryz.func134,Tryz.ntmps134
   go_wp2_with (first|(go_at_call 146;refine(H2.out _).mono ?_;rintro e W ⟨rfl,hbW⟩;have HF:=Lib.hid ((four_new w (.int .i64 0) (.int .i64 (i:Int)) (.int .i64 ((i:Int)+1)) (.int .i64 0) (.int .i64 (i:Int)) (.int .i64 0)).then hbW);obtain⟨⟨⟨u0,u1,u2,u3,u4,u5,k0,k1,k2,k3,k4,k5⟩,f0,f1,f2,f3,f4,f5⟩,x0,x1,x2,y0,y1,y2,⟨⟨g0,g1,g2⟩,g3,g4,g5⟩,_⟩:=HF.out;clear hbW)|(go_at_call 135;refine(HFI.out _).mono ?_;rintro e W2 ⟨rfl,hb2⟩;have HG:=Lib.hid ((HF.out.set0 (.int .i64 4)).then hb2);clear k0 k1 k2 k3 k4 k5 f0 f1 f2 f3 f4 f5 x0 x1 x2 y0 y1 y2 g0 g1 g2 g3 g4 g5;clear hb2;obtain⟨⟨⟨u0,u1,u2,u3,u4,u5,k0,k1,k2,k3,k4,k5⟩,f0,f1,f2,f3,f4,f5⟩,x0,x1,x2,y0,y1,y2,⟨⟨g0,g1,g2⟩,g3,g4,g5⟩,_⟩:=HG.out))
   go_region
   go_wp2_with fail
   exact bodyPost_ret (results_drew Tryz.results134 _ (by repeat (first|exact HG.out.six|refine six_past ?_ (by omega) _)) (.int .i64 4) (.int .i64 (i:Int)) (.int .i64 (t:Int)) (.int .i64 105) (.int .i64 (i:Int)) (.int .i64 (t:Int)) rfl rfl) rfl (Told.mk' (x:=(i:Int)) (y:=(t:Int)) (by rw[HW.out,show((i:Int)+((wrong 4 (s.size - i) 105).width:Int))=(t:Int) by have:=HE.out;simp only[wrong];omega];rfl) (by rw[HW.out];exact fun _=>⟨by simp [wrong],by have:=HE.out;simp only[wrong];omega⟩) (below_put6 (by repeat (first|exact HG.out.below|refine below_at ?_ (by omega) _)) (Nat.le_refl _) _ _ _ _ _ _).drew)
  ·have b1:((i:Int) == 0)=true:=beq_iff_eq.2 (by omega)
   have d3:decide (3≤(s.size:Int))=true:=decide_eq_true (by omega)
   have hsl3:=slice_to s 3 3 rfl h3
   obtain⟨x3,hx3⟩:∃ x,B (s.data.toList.take 3)=x:=⟨_,rfl⟩
   rw[hx3] at h4 hsl3
   clear h1 h3 hx3
   go_enter Tryz.func134,Tryz.ntmps134
   go_wp2_with (first|(go_at_call 146;refine(H2.out _).mono ?_;rintro e W ⟨rfl,hbW⟩;have HF:=Lib.hid ((four_new w (.int .i64 0) (.int .i64 (i:Int)) (.int .i64 ((i:Int)+1)) (.int .i64 0) (.int .i64 (i:Int)) (.int .i64 0)).then hbW);obtain⟨⟨⟨u0,u1,u2,u3,u4,u5,k0,k1,k2,k3,k4,k5⟩,f0,f1,f2,f3,f4,f5⟩,x0,x1,x2,y0,y1,y2,⟨⟨g0,g1,g2⟩,g3,g4,g5⟩,_⟩:=HF.out;clear hbW)|(go_at_call 135;refine(HFI.out _).mono ?_;rintro e W2 ⟨rfl,hb2⟩;have HG:=Lib.hid ((HF.out.set0 (.int .i64 4)).then hb2);clear k0 k1 k2 k3 k4 k5 f0 f1 f2 f3 f4 f5 x0 x1 x2 y0 y1 y2 g0 g1 g2 g3 g4 g5;clear hb2;obtain⟨⟨⟨u0,u1,u2,u3,u4,u5,k0,k1,k2,k3,k4,k5⟩,f0,f1,f2,f3,f4,f5⟩,x0,x1,x2,y0,y1,y2,⟨⟨g0,g1,g2⟩,g3,g4,g5⟩,_⟩:=HG.out))
   go_region
   go_wp2_with fail
   exact bodyPost_ret (results_drew Tryz.results134 _ (by repeat (first|exact HG.out.six|refine six_past ?_ (by omega) _)) (.int .i64 4) (.int .i64 (i:Int)) (.int .i64 (t:Int)) (.int .i64 105) (.int .i64 (i:Int)) (.int .i64 (t:Int)) rfl rfl) rfl (Told.mk' (x:=(i:Int)) (y:=(t:Int)) (by rw[HW.out,show((i:Int)+((wrong 4 (s.size - i) 105).width:Int))=(t:Int) by have:=HE.out;simp only[wrong];omega];rfl) (by rw[HW.out];exact fun _=>⟨by simp [wrong],by have:=HE.out;simp only[wrong];omega⟩) (below_put6 (by repeat (first|exact HG.out.below|refine below_at ?_ (by omega) _)) (Nat.le_refl _) _ _ _ _ _ _).drew)
 ·have be:((t:Int) == (s.size:Int))=false:=beq_eq_false_iff_ne.2 (by omega)
  rw[if_neg he] at HW
  have hro':=hro he
  have hro2:t+2≤s.size:=hro'
  have HE:Hid (i+(t+2 - i)=t+2):=Lib.hid (by omega)
  have HW2:Hid (m=right 4 (t+2 - i)):=HW
  clear hro hro' he HW
  have HW:=HW2
  clear HW2
  rcases nm_cases h1 with h1|⟨h1,h3⟩|⟨h1,h3,h4⟩
  ·have b1:((i:Int) == 0)=false:=beq_eq_false_iff_ne.2 (by omega)
   clear h1
   go_enter Tryz.func134,Tryz.ntmps134
   go_wp2_with (first|(go_at_call 146;refine(H2.out _).mono ?_;rintro e W ⟨rfl,hbW⟩;have HF:=Lib.hid ((four_new w (.int .i64 0) (.int .i64 (i:Int)) (.int .i64 ((i:Int)+1)) (.int .i64 0) (.int .i64 (i:Int)) (.int .i64 0)).then hbW);obtain⟨⟨⟨u0,u1,u2,u3,u4,u5,k0,k1,k2,k3,k4,k5⟩,f0,f1,f2,f3,f4,f5⟩,x0,x1,x2,y0,y1,y2,⟨⟨g0,g1,g2⟩,g3,g4,g5⟩,_⟩:=HF.out;clear hbW)|(go_at_call 135;refine(HFI.out _).mono ?_;rintro e W2 ⟨rfl,hb2⟩;have HG:=Lib.hid ((HF.out.set0 (.int .i64 4)).then hb2);clear k0 k1 k2 k3 k4 k5 f0 f1 f2 f3 f4 f5 x0 x1 x2 y0 y1 y2 g0 g1 g2 g3 g4 g5;clear hb2;obtain⟨⟨⟨u0,u1,u2,u3,u4,u5,k0,k1,k2,k3,k4,k5⟩,f0,f1,f2,f3,f4,f5⟩,x0,x1,x2,y0,y1,y2,⟨⟨g0,g1,g2⟩,g3,g4,g5⟩,_⟩:=HG.out))
   go_region
   go_wp2_with fail
   exact bodyPost_ret (results_drew Tryz.results134 _ (by repeat (first|exact HG.out.six|refine six_past ?_ (by omega) _)) (.int .i64 4) (.int .i64 (i:Int)) (.int .i64 ((t:Int)+2:Int)) (.int .i64 0) (.int .i64 (i:Int)) (.int .i64 ((t:Int)+2:Int)) rfl rfl) rfl (Told.mk' (x:=(i:Int)) (y:=((t:Int)+2:Int)) (by rw[HW.out,show((i:Int)+((right 4 (t+2 - i)).width:Int))=((t:Int)+2:Int) by have:=HE.out;simp only[right];omega];rfl) (by rw[HW.out];exact fun h=>absurd rfl h) (below_put6 (by repeat (first|exact HG.out.below|refine below_at ?_ (by omega) _)) (Nat.le_refl _) _ _ _ _ _ _).drew)
  ·have b1:((i:Int) == 0)=true:=beq_iff_eq.2 (by omega)
   have d3:decide (3≤(s.size:Int))=false:=decide_eq_false (by omega)
   clear h1 h3
   go_enter Tryz.func134,Tryz.ntmps134
   go_wp2_with (first|(go_at_call 146;refine(H2.out _).mono ?_;rintro e W ⟨rfl,hbW⟩;have HF:=Lib.hid ((four_new w (.int .i64 0) (.int .i64 (i:Int)) (.int .i64 ((i:Int)+1)) (.int .i64 0) (.int .i64 (i:Int)) (.int .i64 0)).then hbW);obtain⟨⟨⟨u0,u1,u2,u3,u4,u5,k0,k1,k2,k3,k4,k5⟩,f0,f1,f2,f3,f4,f5⟩,x0,x1,x2,y0,y1,y2,⟨⟨g0,g1,g2⟩,g3,g4,g5⟩,_⟩:=HF.out;clear hbW)|(go_at_call 135;refine(HFI.out _).mono ?_;rintro e W2 ⟨rfl,hb2⟩;have HG:=Lib.hid ((HF.out.set0 (.int .i64 4)).then hb2);clear k0 k1 k2 k3 k4 k5 f0 f1 f2 f3 f4 f5 x0 x1 x2 y0 y1 y2 g0 g1 g2 g3 g4 g5;clear hb2;obtain⟨⟨⟨u0,u1,u2,u3,u4,u5,k0,k1,k2,k3,k4,k5⟩,f0,f1,f2,f3,f4,f5⟩,x0,x1,x2,y0,y1,y2,⟨⟨g0,g1,g2⟩,g3,g4,g5⟩,_⟩:=HG.out))
   go_region
   go_wp2_with fail
   exact bodyPost_ret (results_drew Tryz.results134 _ (by repeat (first|exact HG.out.six|refine six_past ?_ (by omega) _)) (.int .i64 4) (.int .i64 (i:Int)) (.int .i64 ((t:Int)+2:Int)) (.int .i64 0) (.int .i64 (i:Int)) (.int .i64 ((t:Int)+2:Int)) rfl rfl) rfl (Told.mk' (x:=(i:Int)) (y:=((t:Int)+2:Int)) (by rw[HW.out,show((i:Int)+((right 4 (t+2 - i)).width:Int))=((t:Int)+2:Int) by have:=HE.out;simp only[right];omega];rfl) (by rw[HW.out];exact fun h=>absurd rfl h) (below_put6 (by repeat (first|exact HG.out.below|refine below_at ?_ (by omega) _)) (Nat.le_refl _) _ _ _ _ _ _).drew)
  ·have b1:((i:Int) == 0)=true:=beq_iff_eq.2 (by omega)
   have d3:decide (3≤(s.size:Int))=true:=decide_eq_true (by omega)
   have hsl3:=slice_to s 3 3 rfl h3
   obtain⟨x3,hx3⟩:∃ x,B (s.data.toList.take 3)=x:=⟨_,rfl⟩
   rw[hx3] at h4 hsl3
   clear h1 h3 hx3
   go_enter Tryz.func134,Tryz.ntmps134
   go_wp2_with (first|(go_at_call 146;refine(H2.out _).mono ?_;rintro e W ⟨rfl,hbW⟩;have HF:=Lib.hid ((four_new w (.int .i64 0) (.int .i64 (i:Int)) (.int .i64 ((i:Int)+1)) (.int .i64 0) (.int .i64 (i:Int)) (.int .i64 0)).then hbW);obtain⟨⟨⟨u0,u1,u2,u3,u4,u5,k0,k1,k2,k3,k4,k5⟩,f0,f1,f2,f3,f4,f5⟩,x0,x1,x2,y0,y1,y2,⟨⟨g0,g1,g2⟩,g3,g4,g5⟩,_⟩:=HF.out;clear hbW)|(go_at_call 135;refine(HFI.out _).mono ?_;rintro e W2 ⟨rfl,hb2⟩;have HG:=Lib.hid ((HF.out.set0 (.int .i64 4)).then hb2);clear k0 k1 k2 k3 k4 k5 f0 f1 f2 f3 f4 f5 x0 x1 x2 y0 y1 y2 g0 g1 g2 g3 g4 g5;clear hb2;obtain⟨⟨⟨u0,u1,u2,u3,u4,u5,k0,k1,k2,k3,k4,k5⟩,f0,f1,f2,f3,f4,f5⟩,x0,x1,x2,y0,y1,y2,⟨⟨g0,g1,g2⟩,g3,g4,g5⟩,_⟩:=HG.out))
   go_region
   go_wp2_with fail
   exact bodyPost_ret (results_drew Tryz.results134 _ (by repeat (first|exact HG.out.six|refine six_past ?_ (by omega) _)) (.int .i64 4) (.int .i64 (i:Int)) (.int .i64 ((t:Int)+2:Int)) (.int .i64 0) (.int .i64 (i:Int)) (.int .i64 ((t:Int)+2:Int)) rfl rfl) rfl (Told.mk' (x:=(i:Int)) (y:=((t:Int)+2:Int)) (by rw[HW.out,show((i:Int)+((right 4 (t+2 - i)).width:Int))=((t:Int)+2:Int) by have:=HE.out;simp only[right];omega];rfl) (by rw[HW.out];exact fun h=>absurd rfl h) (below_put6 (by repeat (first|exact HG.out.below|refine below_at ?_ (by omega) _)) (Nat.le_refl _) _ _ _ _ _ _).drew)
open Go.RowKit Go.Proofs.YtcekbbkidipbnaaGreat.tok
theorem refNext_10 {s:ByteArray} {i:Nat} {c:UInt8} {w:World} (hlt:i<s.size) (hc:s[i]=c) (hs:s.size≤4194304) (m:Nx) (hm:m=closedL 14 106 1 [96] (s.data.toList.drop i)) (h1:i≠0∨Lib.hasPrefix s.data.toList mark=false) (h2:isBl c=false) (h3:c≠10) (h4:c≠47) (h6:isLt c=false) (h7:isDg c=false) (h8:c≠34) (h9:c≠39) (h10:c=96) :
  Calls Tryz.prog 134 #[.string s,.int .i64 (i:Int)] w (Told m i w):=by
 have HW:=Lib.hid hm
 have HSD:=Lib.hid (sdata s)
 have hix:∀ u:World,(Instr.index 9 (.string s) (.int .i64 (i:Int))).run Tryz.prog u=.ok (.int .u8 (c.toNat:Int)) u:=fun u=>by rw[← hc];exact index_at s _ i rfl hlt u
 have H2:=Lib.hid (fun u=>refBlank_then c u)
 rw[h2] at H2
 have b10:((c.toNat:Int) == 10)=false:=byte_ne (d:=10) h3
 rw[closed_is 14 106 1 [96] s.data.toList i (by decide)] at HW
 obtain⟨t,ht⟩:∃ t,findL s.data.toList (i+1) [96]=t:=⟨_,rfl⟩
 have HFI:=Lib.hid (fun u=>refFind_then s ⟨#[96]⟩ (i+1) t ((i:Int)+1) u hs (by decide) (by omega) (by omega) ht)
 have hle:=find_le s.data.toList [96] (i+1) (by rw[HSD.out];omega)
 have hro:=find_room s.data.toList [96] (i+1) (by rw[HSD.out];omega)
 rw[ht,HSD.out] at HW hle hro
 have b47:((c.toNat:Int) == 47)=false:=byte_ne (d:=47) h4
 have b34:((c.toNat:Int) == 34)=false:=byte_ne (d:=34) h8
 have b39:((c.toNat:Int) == 39)=false:=byte_ne (d:=39) h9
 have b96:((c.toNat:Int) == 96)=true:=byte_eq (d:=96) h10
 have H6:=Lib.hid (fun u=>refLetter_any c u)
 rw[h6] at H6
 have H7:=Lib.hid (fun u=>refDigit_any c u)
 rw[h7] at H7
 clear h2 h3 hm hc h4 h6 h7 h8 h9 h10 ht
 by_cases he:t=s.size
 ·have be:((t:Int) == (s.size:Int))=true:=beq_iff_eq.2 (by omega)
  rw[if_pos he] at HW
  have HE:Hid (i+(s.size - i)=t):=Lib.hid (by omega)
  clear hro he
  rcases nm_cases h1 with h1|⟨h1,h3⟩|⟨h1,h3,h4⟩
  ·have b1:((i:Int) == 0)=false:=beq_eq_false_iff_ne.2 (by omega)
   clear h1
   go_enter Tryz.func134,Tryz.ntmps134
   go_wp2_with (first|(go_at_call 146;refine(H2.out _).mono ?_;rintro e W ⟨rfl,hbW⟩;have HF:=Lib.hid ((four_new w (.int .i64 0) (.int .i64 (i:Int)) (.int .i64 ((i:Int)+1)) (.int .i64 0) (.int .i64 (i:Int)) (.int .i64 0)).then hbW);obtain⟨⟨⟨u0,u1,u2,u3,u4,u5,k0,k1,k2,k3,k4,k5⟩,f0,f1,f2,f3,f4,f5⟩,x0,x1,x2,y0,y1,y2,⟨⟨g0,g1,g2⟩,g3,g4,g5⟩,_⟩:=HF.out;clear hbW)|(go_at_call 147;refine(H6.out _).mono ?_;rintro e w' ⟨rfl,rfl⟩)|(go_at_call 148;refine(H7.out _).mono ?_;rintro e w' ⟨rfl,rfl⟩)|(go_at_call 135;refine(HFI.out _).mono ?_;rintro e W2 ⟨rfl,hb2⟩;have HG:=Lib.hid ((HF.out.set0 (.int .i64 14)).then hb2);clear k0 k1 k2 k3 k4 k5 f0 f1 f2 f3 f4 f5 x0 x1 x2 y0 y1 y2 g0 g1 g2 g3 g4 g5;clear hb2;obtain⟨⟨⟨u0,u1,u2,u3,u4,u5,k0,k1,k2,k3,k4,k5⟩,f0,f1,f2,f3,f4,f5⟩,x0,x1,x2,y0,y1,y2,⟨⟨g0,g1,g2⟩,g3,g4,g5⟩,_⟩:=HG.out))
   go_region
   go_wp2_with fail
   exact bodyPost_ret (results_drew Tryz.results134 _ (by repeat (first|exact HG.out.six|refine six_past ?_ (by omega) _)) (.int .i64 14) (.int .i64 (i:Int)) (.int .i64 (t:Int)) (.int .i64 106) (.int .i64 (i:Int)) (.int .i64 (t:Int)) rfl rfl) rfl (Told.mk' (x:=(i:Int)) (y:=(t:Int)) (by rw[HW.out,show((i:Int)+((wrong 14 (s.size - i) 106).width:Int))=(t:Int) by have:=HE.out;simp only[wrong];omega];rfl) (by rw[HW.out];exact fun _=>⟨by simp [wrong],by have:=HE.out;simp only[wrong];omega⟩) (below_put6 (by repeat (first|exact HG.out.below|refine below_at ?_ (by omega) _)) (Nat.le_refl _) _ _ _ _ _ _).drew)
  ·have b1:((i:Int) == 0)=true:=beq_iff_eq.2 (by omega)
   have d3:decide (3≤(s.size:Int))=false:=decide_eq_false (by omega)
   clear h1 h3
   go_enter Tryz.func134,Tryz.ntmps134
   go_wp2_with (first|(go_at_call 146;refine(H2.out _).mono ?_;rintro e W ⟨rfl,hbW⟩;have HF:=Lib.hid ((four_new w (.int .i64 0) (.int .i64 (i:Int)) (.int .i64 ((i:Int)+1)) (.int .i64 0) (.int .i64 (i:Int)) (.int .i64 0)).then hbW);obtain⟨⟨⟨u0,u1,u2,u3,u4,u5,k0,k1,k2,k3,k4,k5⟩,f0,f1,f2,f3,f4,f5⟩,x0,x1,x2,y0,y1,y2,⟨⟨g0,g1,g2⟩,g3,g4,g5⟩,_⟩:=HF.out;clear hbW)|(go_at_call 147;refine(H6.out _).mono ?_;rintro e w' ⟨rfl,rfl⟩)|(go_at_call 148;refine(H7.out _).mono ?_;rintro e w' ⟨rfl,rfl⟩)|(go_at_call 135;refine(HFI.out _).mono ?_;rintro e W2 ⟨rfl,hb2⟩;have HG:=Lib.hid ((HF.out.set0 (.int .i64 14)).then hb2);clear k0 k1 k2 k3 k4 k5 f0 f1 f2 f3 f4 f5 x0 x1 x2 y0 y1 y2 g0 g1 g2 g3 g4 g5;clear hb2;obtain⟨⟨⟨u0,u1,u2,u3,u4,u5,k0,k1,k2,k3,k4,k5⟩,f0,f1,f2,f3,f4,f5⟩,x0,x1,x2,y0,y1,y2,⟨⟨g0,g1,g2⟩,g3,g4,g5⟩,_⟩:=HG.out))
   go_region
   go_wp2_with fail
   exact bodyPost_ret (results_drew Tryz.results134 _ (by repeat (first|exact HG.out.six|refine six_past ?_ (by omega) _)) (.int .i64 14) (.int .i64 (i:Int)) (.int .i64 (t:Int)) (.int .i64 106) (.int .i64 (i:Int)) (.int .i64 (t:Int)) rfl rfl) rfl (Told.mk' (x:=(i:Int)) (y:=(t:Int)) (by rw[HW.out,show((i:Int)+((wrong 14 (s.size - i) 106).width:Int))=(t:Int) by have:=HE.out;simp only[wrong];omega];rfl) (by rw[HW.out];exact fun _=>⟨by simp [wrong],by have:=HE.out;simp only[wrong];omega⟩) (below_put6 (by repeat (first|exact HG.out.below|refine below_at ?_ (by omega) _)) (Nat.le_refl _) _ _ _ _ _ _).drew)
  ·have b1:((i:Int) == 0)=true:=beq_iff_eq.2 (by omega)
   have d3:decide (3≤(s.size:Int))=true:=decide_eq_true (by omega)
   have hsl3:=slice_to s 3 3 rfl h3
   obtain⟨x3,hx3⟩:∃ x,B (s.data.toList.take 3)=x:=⟨_,rfl⟩
   rw[hx3] at h4 hsl3
   clear h1 h3 hx3
   go_enter Tryz.func134,Tryz.ntmps134
   go_wp2_with (first|(go_at_call 146;refine(H2.out _).mono ?_;rintro e W ⟨rfl,hbW⟩;have HF:=Lib.hid ((four_new w (.int .i64 0) (.int .i64 (i:Int)) (.int .i64 ((i:Int)+1)) (.int .i64 0) (.int .i64 (i:Int)) (.int .i64 0)).then hbW);obtain⟨⟨⟨u0,u1,u2,u3,u4,u5,k0,k1,k2,k3,k4,k5⟩,f0,f1,f2,f3,f4,f5⟩,x0,x1,x2,y0,y1,y2,⟨⟨g0,g1,g2⟩,g3,g4,g5⟩,_⟩:=HF.out;clear hbW)|(go_at_call 147;refine(H6.out _).mono ?_;rintro e w' ⟨rfl,rfl⟩)|(go_at_call 148;refine(H7.out _).mono ?_;rintro e w' ⟨rfl,rfl⟩)|(go_at_call 135;refine(HFI.out _).mono ?_;rintro e W2 ⟨rfl,hb2⟩;have HG:=Lib.hid ((HF.out.set0 (.int .i64 14)).then hb2);clear k0 k1 k2 k3 k4 k5 f0 f1 f2 f3 f4 f5 x0 x1 x2 y0 y1 y2 g0 g1 g2 g3 g4 g5;clear hb2;obtain⟨⟨⟨u0,u1,u2,u3,u4,u5,k0,k1,k2,k3,k4,k5⟩,f0,f1,f2,f3,f4,f5⟩,x0,x1,x2,y0,y1,y2,⟨⟨g0,g1,g2⟩,g3,g4,g5⟩,_⟩:=HG.out))
   go_region
   go_wp2_with fail
   exact bodyPost_ret (results_drew Tryz.results134 _ (by repeat (first|exact HG.out.six|refine six_past ?_ (by omega) _)) (.int .i64 14) (.int .i64 (i:Int)) (.int .i64 (t:Int)) (.int .i64 106) (.int .i64 (i:Int)) (.int .i64 (t:Int)) rfl rfl) rfl (Told.mk' (x:=(i:Int)) (y:=(t:Int)) (by rw[HW.out,show((i:Int)+((wrong 14 (s.size - i) 106).width:Int))=(t:Int) by have:=HE.out;simp only[wrong];omega];rfl) (by rw[HW.out];exact fun _=>⟨by simp [wrong],by have:=HE.out;simp only[wrong];omega⟩) (below_put6 (by repeat (first|exact HG.out.below|refine below_at ?_ (by omega) _)) (Nat.le_refl _) _ _ _ _ _ _).drew)
 ·have be:((t:Int) == (s.size:Int))=false:=beq_eq_false_iff_ne.2 (by omega)
  rw[if_neg he] at HW
  have hro':=hro he
  have hro2:t+1≤s.size:=hro'
  have HE:Hid (i+(t+1 - i)=t+1):=Lib.hid (by omega)
  have HW2:Hid (m=right 14 (t+1 - i)):=HW
  clear hro hro' he HW
  have HW:=HW2
  clear HW2
  rcases nm_cases h1 with h1|⟨h1,h3⟩|⟨h1,h3,h4⟩
  ·have b1:((i:Int) == 0)=false:=beq_eq_false_iff_ne.2 (by omega)
   clear h1
   go_enter Tryz.func134,Tryz.ntmps134
   go_wp2_with (first|(go_at_call 146;refine(H2.out _).mono ?_;rintro e W ⟨rfl,hbW⟩;have HF:=Lib.hid ((four_new w (.int .i64 0) (.int .i64 (i:Int)) (.int .i64 ((i:Int)+1)) (.int .i64 0) (.int .i64 (i:Int)) (.int .i64 0)).then hbW);obtain⟨⟨⟨u0,u1,u2,u3,u4,u5,k0,k1,k2,k3,k4,k5⟩,f0,f1,f2,f3,f4,f5⟩,x0,x1,x2,y0,y1,y2,⟨⟨g0,g1,g2⟩,g3,g4,g5⟩,_⟩:=HF.out;clear hbW)|(go_at_call 147;refine(H6.out _).mono ?_;rintro e w' ⟨rfl,rfl⟩)|(go_at_call 148;refine(H7.out _).mono ?_;rintro e w' ⟨rfl,rfl⟩)|(go_at_call 135;refine(HFI.out _).mono ?_;rintro e W2 ⟨rfl,hb2⟩;have HG:=Lib.hid ((HF.out.set0 (.int .i64 14)).then hb2);clear k0 k1 k2 k3 k4 k5 f0 f1 f2 f3 f4 f5 x0 x1 x2 y0 y1 y2 g0 g1 g2 g3 g4 g5;clear hb2;obtain⟨⟨⟨u0,u1,u2,u3,u4,u5,k0,k1,k2,k3,k4,k5⟩,f0,f1,f2,f3,f4,f5⟩,x0,x1,x2,y0,y1,y2,⟨⟨g0,g1,g2⟩,g3,g4,g5⟩,_⟩:=HG.out))
   go_region
   go_wp2_with fail
   exact bodyPost_ret (results_drew Tryz.results134 _ (by repeat (first|exact HG.out.six|refine six_past ?_ (by omega) _)) (.int .i64 14) (.int .i64 (i:Int)) (.int .i64 ((t:Int)+1:Int)) (.int .i64 0) (.int .i64 (i:Int)) (.int .i64 ((t:Int)+1:Int)) rfl rfl) rfl (Told.mk' (x:=(i:Int)) (y:=((t:Int)+1:Int)) (by rw[HW.out,show((i:Int)+((right 14 (t+1 - i)).width:Int))=((t:Int)+1:Int) by have:=HE.out;simp only[right];omega];rfl) (by rw[HW.out];exact fun h=>absurd rfl h) (below_put6 (by repeat (first|exact HG.out.below|refine below_at ?_ (by omega) _)) (Nat.le_refl _) _ _ _ _ _ _).drew)
  ·have b1:((i:Int) == 0)=true:=beq_iff_eq.2 (by omega)
   have d3:decide (3≤(s.size:Int))=false:=decide_eq_false (by omega)
   clear h1 h3
   go_enter Tryz.func134,Tryz.ntmps134
   go_wp2_with (first|(go_at_call 146;refine(H2.out _).mono ?_;rintro e W ⟨rfl,hbW⟩;have HF:=Lib.hid ((four_new w (.int .i64 0) (.int .i64 (i:Int)) (.int .i64 ((i:Int)+1)) (.int .i64 0) (.int .i64 (i:Int)) (.int .i64 0)).then hbW);obtain⟨⟨⟨u0,u1,u2,u3,u4,u5,k0,k1,k2,k3,k4,k5⟩,f0,f1,f2,f3,f4,f5⟩,x0,x1,x2,y0,y1,y2,⟨⟨g0,g1,g2⟩,g3,g4,g5⟩,_⟩:=HF.out;clear hbW)|(go_at_call 147;refine(H6.out _).mono ?_;rintro e w' ⟨rfl,rfl⟩)|(go_at_call 148;refine(H7.out _).mono ?_;rintro e w' ⟨rfl,rfl⟩)|(go_at_call 135;refine(HFI.out _).mono ?_;rintro e W2 ⟨rfl,hb2⟩;have HG:=Lib.hid ((HF.out.set0 (.int .i64 14)).then hb2);clear k0 k1 k2 k3 k4 k5 f0 f1 f2 f3 f4 f5 x0 x1 x2 y0 y1 y2 g0 g1 g2 g3 g4 g5;clear hb2;obtain⟨⟨⟨u0,u1,u2,u3,u4,u5,k0,k1,k2,k3,k4,k5⟩,f0,f1,f2,f3,f4,f5⟩,x0,x1,x2,y0,y1,y2,⟨⟨g0,g1,g2⟩,g3,g4,g5⟩,_⟩:=HG.out))
   go_region
   go_wp2_with fail
   exact bodyPost_ret (results_drew Tryz.results134 _ (by repeat (first|exact HG.out.six|refine six_past ?_ (by omega) _)) (.int .i64 14) (.int .i64 (i:Int)) (.int .i64 ((t:Int)+1:Int)) (.int .i64 0) (.int .i64 (i:Int)) (.int .i64 ((t:Int)+1:Int)) rfl rfl) rfl (Told.mk' (x:=(i:Int)) (y:=((t:Int)+1:Int)) (by rw[HW.out,show((i:Int)+((right 14 (t+1 - i)).width:Int))=((t:Int)+1:Int) by have:=HE.out;simp only[right];omega];rfl) (by rw[HW.out];exact fun h=>absurd rfl h) (below_put6 (by repeat (first|exact HG.out.below|refine below_at ?_ (by omega) _)) (Nat.le_refl _) _ _ _ _ _ _).drew)
  ·have b1:((i:Int) == 0)=true:=beq_iff_eq.2 (by omega)
   have d3:decide (3≤(s.size:Int))=true:=decide_eq_true (by omega)
   have hsl3:=slice_to s 3 3 rfl h3
   obtain⟨x3,hx3⟩:∃ x,B (s.data.toList.take 3)=x:=⟨_,rfl⟩
   rw[hx3] at h4 hsl3
   clear h1 h3 hx3
   go_enter Tryz.func134,Tryz.ntmps134
   go_wp2_with (first|(go_at_call 146;refine(H2.out _).mono ?_;rintro e W ⟨rfl,hbW⟩;have HF:=Lib.hid ((four_new w (.int .i64 0) (.int .i64 (i:Int)) (.int .i64 ((i:Int)+1)) (.int .i64 0) (.int .i64 (i:Int)) (.int .i64 0)).then hbW);obtain⟨⟨⟨u0,u1,u2,u3,u4,u5,k0,k1,k2,k3,k4,k5⟩,f0,f1,f2,f3,f4,f5⟩,x0,x1,x2,y0,y1,y2,⟨⟨g0,g1,g2⟩,g3,g4,g5⟩,_⟩:=HF.out;clear hbW)|(go_at_call 147;refine(H6.out _).mono ?_;rintro e w' ⟨rfl,rfl⟩)|(go_at_call 148;refine(H7.out _).mono ?_;rintro e w' ⟨rfl,rfl⟩)|(go_at_call 135;refine(HFI.out _).mono ?_;rintro e W2 ⟨rfl,hb2⟩;have HG:=Lib.hid ((HF.out.set0 (.int .i64 14)).then hb2);clear k0 k1 k2 k3 k4 k5 f0 f1 f2 f3 f4 f5 x0 x1 x2 y0 y1 y2 g0 g1 g2 g3 g4 g5;clear hb2;obtain⟨⟨⟨u0,u1,u2,u3,u4,u5,k0,k1,k2,k3,k4,k5⟩,f0,f1,f2,f3,f4,f5⟩,x0,x1,x2,y0,y1,y2,⟨⟨g0,g1,g2⟩,g3,g4,g5⟩,_⟩:=HG.out))
   go_region
   go_wp2_with fail
   exact bodyPost_ret (results_drew Tryz.results134 _ (by repeat (first|exact HG.out.six|refine six_past ?_ (by omega) _)) (.int .i64 14) (.int .i64 (i:Int)) (.int .i64 ((t:Int)+1:Int)) (.int .i64 0) (.int .i64 (i:Int)) (.int .i64 ((t:Int)+1:Int)) rfl rfl) rfl (Told.mk' (x:=(i:Int)) (y:=((t:Int)+1:Int)) (by rw[HW.out,show((i:Int)+((right 14 (t+1 - i)).width:Int))=((t:Int)+1:Int) by have:=HE.out;simp only[right];omega];rfl) (by rw[HW.out];exact fun h=>absurd rfl h) (below_put6 (by repeat (first|exact HG.out.below|refine below_at ?_ (by omega) _)) (Nat.le_refl _) _ _ _ _ _ _).drew)
open Go.RowKit Go.Proofs.YtcekbbkidipbnaaGreat.tok
theorem refNext_8 {s:ByteArray} {i:Nat} {c:UInt8} {w:World} (hlt:i<s.size) (hc:s[i]=c) (hs:s.size≤4194304) (m:Nx) (hm:m=quotedL lang.str 13 106 34 (s.data.toList.drop i)) (h1:i≠0∨Lib.hasPrefix s.data.toList mark=false) (h2:isBl c=false) (h3:c≠10) (h4:c≠47) (h6:isLt c=false) (h7:isDg c=false) (h8:c=34) :
  Calls Tryz.prog 134 #[.string s,.int .i64 (i:Int)] w (Told m i w):=by
 have HW:=Lib.hid hm
 have HSD:=Lib.hid (sdata s)
 have hix:∀ u:World,(Instr.index 9 (.string s) (.int .i64 (i:Int))).run Tryz.prog u=.ok (.int .u8 (c.toNat:Int)) u:=fun u=>by rw[← hc];exact index_at s _ i rfl hlt u
 have H2:=Lib.hid (fun u=>refBlank_then c u)
 rw[h2] at H2
 have b10:((c.toNat:Int) == 10)=false:=byte_ne (d:=10) h3
 have b47:((c.toNat:Int) == 47)=false:=byte_ne (d:=47) h4
 have b34:((c.toNat:Int) == 34)=true:=byte_eq (d:=34) h8
 have H6:=Lib.hid (fun u=>refLetter_any c u)
 rw[h6] at H6
 have H7:=Lib.hid (fun u=>refDigit_any c u)
 rw[h7] at H7
 have HT:=Lib.hid (fun u=>refText_str s i u hs hlt (hc.trans h8))
 clear h2 h3 hm hc h4 h6 h7 h8
 rcases nm_cases h1 with h1|⟨h1,h3⟩|⟨h1,h3,h4⟩
 ·have b1:((i:Int) == 0)=false:=beq_eq_false_iff_ne.2 (by omega)
  clear h1
  go_enter Tryz.func134,Tryz.ntmps134
  go_wp2_with (first|(go_at_call 146;refine(H2.out _).mono ?_;rintro e W ⟨rfl,hbW⟩;have HF:=Lib.hid ((four_new w (.int .i64 0) (.int .i64 (i:Int)) (.int .i64 ((i:Int)+1)) (.int .i64 0) (.int .i64 (i:Int)) (.int .i64 0)).then hbW);obtain⟨⟨⟨u0,u1,u2,u3,u4,u5,k0,k1,k2,k3,k4,k5⟩,f0,f1,f2,f3,f4,f5⟩,x0,x1,x2,y0,y1,y2,⟨⟨g0,g1,g2⟩,g3,g4,g5⟩,_⟩:=HF.out;clear hbW)|(go_at_call 147;refine(H6.out _).mono ?_;rintro e w' ⟨rfl,rfl⟩)|(go_at_call 148;refine(H7.out _).mono ?_;rintro e w' ⟨rfl,rfl⟩)|(go_at_call 151;refine(HT.out _).mono ?_;rintro e W2 ⟨xx,yy,rfl,hxy,hb2⟩;have HY:=Lib.hid hxy;have HG:=Lib.hid (HF.out.then hb2);clear k0 k1 k2 k3 k4 k5 f0 f1 f2 f3 f4 f5 x0 x1 x2 y0 y1 y2 g0 g1 g2 g3 g4 g5;clear hb2 hxy;obtain⟨⟨⟨u0,u1,u2,u3,u4,u5,k0,k1,k2,k3,k4,k5⟩,f0,f1,f2,f3,f4,f5⟩,x0,x1,x2,y0,y1,y2,⟨⟨g0,g1,g2⟩,g3,g4,g5⟩,_⟩:=HG.out))
  exact bodyPost_ret (results_two Tryz.results134 _ HG.out.six _ _ _ _ _ _ rfl rfl) rfl (Told.same HW.out HY.out (below_put6 HG.out.below (Nat.le_refl _) _ _ _ _ _ _))
 ·have b1:((i:Int) == 0)=true:=beq_iff_eq.2 (by omega)
  have d3:decide (3≤(s.size:Int))=false:=decide_eq_false (by omega)
  clear h1 h3
  go_enter Tryz.func134,Tryz.ntmps134
  go_wp2_with (first|(go_at_call 146;refine(H2.out _).mono ?_;rintro e W ⟨rfl,hbW⟩;have HF:=Lib.hid ((four_new w (.int .i64 0) (.int .i64 (i:Int)) (.int .i64 ((i:Int)+1)) (.int .i64 0) (.int .i64 (i:Int)) (.int .i64 0)).then hbW);obtain⟨⟨⟨u0,u1,u2,u3,u4,u5,k0,k1,k2,k3,k4,k5⟩,f0,f1,f2,f3,f4,f5⟩,x0,x1,x2,y0,y1,y2,⟨⟨g0,g1,g2⟩,g3,g4,g5⟩,_⟩:=HF.out;clear hbW)|(go_at_call 147;refine(H6.out _).mono ?_;rintro e w' ⟨rfl,rfl⟩)|(go_at_call 148;refine(H7.out _).mono ?_;rintro e w' ⟨rfl,rfl⟩)|(go_at_call 151;refine(HT.out _).mono ?_;rintro e W2 ⟨xx,yy,rfl,hxy,hb2⟩;have HY:=Lib.hid hxy;have HG:=Lib.hid (HF.out.then hb2);clear k0 k1 k2 k3 k4 k5 f0 f1 f2 f3 f4 f5 x0 x1 x2 y0 y1 y2 g0 g1 g2 g3 g4 g5;clear hb2 hxy;obtain⟨⟨⟨u0,u1,u2,u3,u4,u5,k0,k1,k2,k3,k4,k5⟩,f0,f1,f2,f3,f4,f5⟩,x0,x1,x2,y0,y1,y2,⟨⟨g0,g1,g2⟩,g3,g4,g5⟩,_⟩:=HG.out))
  exact bodyPost_ret (results_two Tryz.results134 _ HG.out.six _ _ _ _ _ _ rfl rfl) rfl (Told.same HW.out HY.out (below_put6 HG.out.below (Nat.le_refl _) _ _ _ _ _ _))
 ·have b1:((i:Int) == 0)=true:=beq_iff_eq.2 (by omega)
  have d3:decide (3≤(s.size:Int))=true:=decide_eq_true (by omega)
  have hsl3:=slice_to s 3 3 rfl h3
  obtain⟨x3,hx3⟩:∃ x,B (s.data.toList.take 3)=x:=⟨_,rfl⟩
  rw[hx3] at h4 hsl3
  clear h1 h3 hx3
  go_enter Tryz.func134,Tryz.ntmps134
  go_wp2_with (first|(go_at_call 146;refine(H2.out _).mono ?_;rintro e W ⟨rfl,hbW⟩;have HF:=Lib.hid ((four_new w (.int .i64 0) (.int .i64 (i:Int)) (.int .i64 ((i:Int)+1)) (.int .i64 0) (.int .i64 (i:Int)) (.int .i64 0)).then hbW);obtain⟨⟨⟨u0,u1,u2,u3,u4,u5,k0,k1,k2,k3,k4,k5⟩,f0,f1,f2,f3,f4,f5⟩,x0,x1,x2,y0,y1,y2,⟨⟨g0,g1,g2⟩,g3,g4,g5⟩,_⟩:=HF.out;clear hbW)|(go_at_call 147;refine(H6.out _).mono ?_;rintro e w' ⟨rfl,rfl⟩)|(go_at_call 148;refine(H7.out _).mono ?_;rintro e w' ⟨rfl,rfl⟩)|(go_at_call 151;refine(HT.out _).mono ?_;rintro e W2 ⟨xx,yy,rfl,hxy,hb2⟩;have HY:=Lib.hid hxy;have HG:=Lib.hid (HF.out.then hb2);clear k0 k1 k2 k3 k4 k5 f0 f1 f2 f3 f4 f5 x0 x1 x2 y0 y1 y2 g0 g1 g2 g3 g4 g5;clear hb2 hxy;obtain⟨⟨⟨u0,u1,u2,u3,u4,u5,k0,k1,k2,k3,k4,k5⟩,f0,f1,f2,f3,f4,f5⟩,x0,x1,x2,y0,y1,y2,⟨⟨g0,g1,g2⟩,g3,g4,g5⟩,_⟩:=HG.out))
  exact bodyPost_ret (results_two Tryz.results134 _ HG.out.six _ _ _ _ _ _ rfl rfl) rfl (Told.same HW.out HY.out (below_put6 HG.out.below (Nat.le_refl _) _ _ _ _ _ _))
open Go.RowKit Go.Proofs.YtcekbbkidipbnaaGreat.tok
theorem refNext_9 {s:ByteArray} {i:Nat} {c:UInt8} {w:World} (hlt:i<s.size) (hc:s[i]=c) (hs:s.size≤4194304) (m:Nx) (hm:m=quotedL lang.rune 12 107 39 (s.data.toList.drop i)) (h1:i≠0∨Lib.hasPrefix s.data.toList mark=false) (h2:isBl c=false) (h3:c≠10) (h4:c≠47) (h6:isLt c=false) (h7:isDg c=false) (h8:c≠34) (h9:c=39) :
  Calls Tryz.prog 134 #[.string s,.int .i64 (i:Int)] w (Told m i w):=by
 have HW:=Lib.hid hm
 have HSD:=Lib.hid (sdata s)
 have hix:∀ u:World,(Instr.index 9 (.string s) (.int .i64 (i:Int))).run Tryz.prog u=.ok (.int .u8 (c.toNat:Int)) u:=fun u=>by rw[← hc];exact index_at s _ i rfl hlt u
 have H2:=Lib.hid (fun u=>refBlank_then c u)
 rw[h2] at H2
 have b10:((c.toNat:Int) == 10)=false:=byte_ne (d:=10) h3
 have b47:((c.toNat:Int) == 47)=false:=byte_ne (d:=47) h4
 have b34:((c.toNat:Int) == 34)=false:=byte_ne (d:=34) h8
 have b39:((c.toNat:Int) == 39)=true:=byte_eq (d:=39) h9
 have H6:=Lib.hid (fun u=>refLetter_any c u)
 rw[h6] at H6
 have H7:=Lib.hid (fun u=>refDigit_any c u)
 rw[h7] at H7
 have HT:=Lib.hid (fun u=>refText_rune s i u hs hlt (hc.trans h9))
 clear h2 h3 hm hc h4 h6 h7 h8 h9
 rcases nm_cases h1 with h1|⟨h1,h3⟩|⟨h1,h3,h4⟩
 ·have b1:((i:Int) == 0)=false:=beq_eq_false_iff_ne.2 (by omega)
  clear h1
  go_enter Tryz.func134,Tryz.ntmps134
  go_wp2_with (first|(go_at_call 146;refine(H2.out _).mono ?_;rintro e W ⟨rfl,hbW⟩;have HF:=Lib.hid ((four_new w (.int .i64 0) (.int .i64 (i:Int)) (.int .i64 ((i:Int)+1)) (.int .i64 0) (.int .i64 (i:Int)) (.int .i64 0)).then hbW);obtain⟨⟨⟨u0,u1,u2,u3,u4,u5,k0,k1,k2,k3,k4,k5⟩,f0,f1,f2,f3,f4,f5⟩,x0,x1,x2,y0,y1,y2,⟨⟨g0,g1,g2⟩,g3,g4,g5⟩,_⟩:=HF.out;clear hbW)|(go_at_call 147;refine(H6.out _).mono ?_;rintro e w' ⟨rfl,rfl⟩)|(go_at_call 148;refine(H7.out _).mono ?_;rintro e w' ⟨rfl,rfl⟩)|(go_at_call 151;refine(HT.out _).mono ?_;rintro e W2 ⟨xx,yy,rfl,hxy,hb2⟩;have HY:=Lib.hid hxy;have HG:=Lib.hid (HF.out.then hb2);clear k0 k1 k2 k3 k4 k5 f0 f1 f2 f3 f4 f5 x0 x1 x2 y0 y1 y2 g0 g1 g2 g3 g4 g5;clear hb2 hxy;obtain⟨⟨⟨u0,u1,u2,u3,u4,u5,k0,k1,k2,k3,k4,k5⟩,f0,f1,f2,f3,f4,f5⟩,x0,x1,x2,y0,y1,y2,⟨⟨g0,g1,g2⟩,g3,g4,g5⟩,_⟩:=HG.out))
  exact bodyPost_ret (results_two Tryz.results134 _ HG.out.six _ _ _ _ _ _ rfl rfl) rfl (Told.same HW.out HY.out (below_put6 HG.out.below (Nat.le_refl _) _ _ _ _ _ _))
 ·have b1:((i:Int) == 0)=true:=beq_iff_eq.2 (by omega)
  have d3:decide (3≤(s.size:Int))=false:=decide_eq_false (by omega)
  clear h1 h3
  go_enter Tryz.func134,Tryz.ntmps134
  go_wp2_with (first|(go_at_call 146;refine(H2.out _).mono ?_;rintro e W ⟨rfl,hbW⟩;have HF:=Lib.hid ((four_new w (.int .i64 0) (.int .i64 (i:Int)) (.int .i64 ((i:Int)+1)) (.int .i64 0) (.int .i64 (i:Int)) (.int .i64 0)).then hbW);obtain⟨⟨⟨u0,u1,u2,u3,u4,u5,k0,k1,k2,k3,k4,k5⟩,f0,f1,f2,f3,f4,f5⟩,x0,x1,x2,y0,y1,y2,⟨⟨g0,g1,g2⟩,g3,g4,g5⟩,_⟩:=HF.out;clear hbW)|(go_at_call 147;refine(H6.out _).mono ?_;rintro e w' ⟨rfl,rfl⟩)|(go_at_call 148;refine(H7.out _).mono ?_;rintro e w' ⟨rfl,rfl⟩)|(go_at_call 151;refine(HT.out _).mono ?_;rintro e W2 ⟨xx,yy,rfl,hxy,hb2⟩;have HY:=Lib.hid hxy;have HG:=Lib.hid (HF.out.then hb2);clear k0 k1 k2 k3 k4 k5 f0 f1 f2 f3 f4 f5 x0 x1 x2 y0 y1 y2 g0 g1 g2 g3 g4 g5;clear hb2 hxy;obtain⟨⟨⟨u0,u1,u2,u3,u4,u5,k0,k1,k2,k3,k4,k5⟩,f0,f1,f2,f3,f4,f5⟩,x0,x1,x2,y0,y1,y2,⟨⟨g0,g1,g2⟩,g3,g4,g5⟩,_⟩:=HG.out))
  exact bodyPost_ret (results_two Tryz.results134 _ HG.out.six _ _ _ _ _ _ rfl rfl) rfl (Told.same HW.out HY.out (below_put6 HG.out.below (Nat.le_refl _) _ _ _ _ _ _))
 ·have b1:((i:Int) == 0)=true:=beq_iff_eq.2 (by omega)
  have d3:decide (3≤(s.size:Int))=true:=decide_eq_true (by omega)
  have hsl3:=slice_to s 3 3 rfl h3
  obtain⟨x3,hx3⟩:∃ x,B (s.data.toList.take 3)=x:=⟨_,rfl⟩
  rw[hx3] at h4 hsl3
  clear h1 h3 hx3
  go_enter Tryz.func134,Tryz.ntmps134
  go_wp2_with (first|(go_at_call 146;refine(H2.out _).mono ?_;rintro e W ⟨rfl,hbW⟩;have HF:=Lib.hid ((four_new w (.int .i64 0) (.int .i64 (i:Int)) (.int .i64 ((i:Int)+1)) (.int .i64 0) (.int .i64 (i:Int)) (.int .i64 0)).then hbW);obtain⟨⟨⟨u0,u1,u2,u3,u4,u5,k0,k1,k2,k3,k4,k5⟩,f0,f1,f2,f3,f4,f5⟩,x0,x1,x2,y0,y1,y2,⟨⟨g0,g1,g2⟩,g3,g4,g5⟩,_⟩:=HF.out;clear hbW)|(go_at_call 147;refine(H6.out _).mono ?_;rintro e w' ⟨rfl,rfl⟩)|(go_at_call 148;refine(H7.out _).mono ?_;rintro e w' ⟨rfl,rfl⟩)|(go_at_call 151;refine(HT.out _).mono ?_;rintro e W2 ⟨xx,yy,rfl,hxy,hb2⟩;have HY:=Lib.hid hxy;have HG:=Lib.hid (HF.out.then hb2);clear k0 k1 k2 k3 k4 k5 f0 f1 f2 f3 f4 f5 x0 x1 x2 y0 y1 y2 g0 g1 g2 g3 g4 g5;clear hb2 hxy;obtain⟨⟨⟨u0,u1,u2,u3,u4,u5,k0,k1,k2,k3,k4,k5⟩,f0,f1,f2,f3,f4,f5⟩,x0,x1,x2,y0,y1,y2,⟨⟨g0,g1,g2⟩,g3,g4,g5⟩,_⟩:=HG.out))
  exact bodyPost_ret (results_two Tryz.results134 _ HG.out.six _ _ _ _ _ _ rfl rfl) rfl (Told.same HW.out HY.out (below_put6 HG.out.below (Nat.le_refl _) _ _ _ _ _ _))
end Go.Proofs.YtcekbbkidipbnaaGreat.lx
