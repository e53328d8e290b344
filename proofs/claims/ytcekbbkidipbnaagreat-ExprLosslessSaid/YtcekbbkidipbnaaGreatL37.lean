/-
  Texts put together: Rbd, Rbe, Rbf, Rbg.
-/
import Derived.Test.YtcekbbkidipbnaaGreatL32
import Derived.Test.YtcekbbkidipbnaaGreatL34
import Derived.Test.YtcekbbkidipbnaaGreatL36
set_option maxRecDepth 100000
set_option maxHeartbeats 8000000
namespace Go.Proofs.YtcekbbkidipbnaaGreat.lx
open Go.RowKit Go.Proofs.YtcekbbkidipbnaaGreat.tok
theorem quoted_is (f:List UInt8→Int × Nat) (kind code:Int) (q:UInt8) (s:ByteArray) (i:Nat) :
  quotedL f kind code q (s.data.toList.drop i)=if (lit q (s.data.toList.drop (i+1))).2=false then wrong kind (1+(lit q (s.data.toList.drop (i+1))).1) code else if (f ((s.data.toList.drop i).take (1+(lit q (s.data.toList.drop (i+1))).1))).1=0 then right kind (1+(lit q (s.data.toList.drop (i+1))).1) else⟨kind,1+(lit q (s.data.toList.drop (i+1))).1,(f ((s.data.toList.drop i).take (1+(lit q (s.data.toList.drop (i+1))).1))).1,(f ((s.data.toList.drop i).take (1+(lit q (s.data.toList.drop (i+1))).1))).2,1⟩:=by
 unfold quotedL
 rw[List.drop_drop]
theorem quoted_told {f:List UInt8→Int × Nat} {kind c:Int} {p n:Nat} {i:Nat} {m:Nx} {x:List UInt8}
  (hW:m=if (f x).1=0 then right kind n else⟨kind,n,(f x).1,(f x).2,1⟩) (hc:(f x).1=c) (hp:(f x).2=p) :
  m.kind=kind∧m.width=n∧m.code=c∧(m.code≠0→((i:Int)+(p:Int))=(i:Int)+(m.off:Int)∧(i:Int)+(p:Int)+1=(i:Int)+(m.off:Int)+(m.dw:Int)):=by
 rw[hc,hp] at hW
 by_cases h:c=0
 ·rw[if_pos h] at hW
  subst hW
  exact⟨rfl,rfl,h.symm,fun h=>absurd rfl h⟩
 ·rw[if_neg h] at hW
  subst hW
  exact⟨rfl,rfl,rfl,fun _=>⟨rfl,rfl⟩⟩
theorem refQuoted_then (s:ByteArray) (i n:Nat) (b:Bool) (q:UInt8) (w:World) (hs:s.size≤4194304) (h1:i<s.size) (hq:s[i]=q) (hq10:q≠10) (hn:n=1+(lit q (s.data.toList.drop (i+1))).1) (hb:b=(lit q (s.data.toList.drop (i+1))).2) :
  Calls Tryz.prog 168 #[.string s,.int .i64 (i:Int)] w (fun e w'=>e=.returned (.tuple #[.int .i64 ((i:Int)+(n:Int)),.bool b])∧Below w.heap.size w w'):=by
 refine(refQuoted_any s i q w hs h1 hq hq10).mono ?_
 rintro e w' ⟨rfl,rfl⟩
 refine⟨?_,Below.refl _ _⟩
 rw[hb,hn,show((i+1+(lit q (s.data.toList.drop (i+1))).1:Nat):Int)=(i:Int)+((1+(lit q (s.data.toList.drop (i+1))).1:Nat):Int) by omega]
theorem uq_zero (l:List UInt8):∀ (n p:Nat) (acc:List UInt8),l.length - p≤n→(uqAt l p acc).2.1=0→(uqAt l p acc).2.2=0:=by
 intro n
 induction n with
 |zero=>intro p acc h;rw[uqAt_past (by omega)];exact fun h=>absurd h (by decide)
 |succ n ih=>
  intro p acc h
  by_cases hp:p<l.length
  ·rw[uqAt_step hp]
   split
   ·split
    ·exact fun h=>absurd h (show(108:Int)≠0 by decide)
    ·exact ih _ _ (by omega)
   ·split
    ·split
     ·exact fun _=>rfl
     ·exact fun _=>rfl
    ·split
     ·exact fun _=>rfl
     ·exact ih _ _ (by omega)
  ·rw[uqAt_past (by omega)];exact fun h=>absurd h (by decide)
theorem str_few (l:List UInt8) (hl:l≠[]):(lang.str l).2≤l.length:=by
 by_cases h:(lang.str l).1=0
 ·have:(lang.str l).2=0:=by
   show(unqOf l).2.2=0
   have h':(unqOf l).2.1=0:=h
   unfold unqOf at h' ⊢
   split
   ·unfold rawOf
    split <;> rfl
   ·rename_i g
    rw[if_neg g] at h'
    split
    ·rename_i g2
     rw[if_pos g2] at h'
     exact uq_zero l _ 1 [] (Nat.le_refl _) h'
    ·rfl
  omega
 ·exact Nat.le_of_lt (lang.str_place l h hl)
theorem rune_few (l:List UInt8) (hl:l≠[]):(lang.rune l).2≤l.length:=by
 by_cases h:(lang.rune l).1=0
 ·have:(lang.rune l).2=0:=by
   show(runeOf l).2.2=0
   have h':(runeOf l).2.1=0:=h
   by_cases h2:l.length<2
   ·rw[rune_short h2]
   ·rw[rune_long (by omega)] at h' ⊢
    have f:=fin_place l
    revert h'
    repeat' split
    all_goals first|exact fun _=>(f _ _).2|exact fun h=>absurd h (by decide)|exact fun _=>rfl
  omega
 ·exact Nat.le_of_lt (lang.rune_place l h hl)
theorem six_two {w w1:World} {b:Nat} (h:Six w1 b) (hb:Below w.heap.size w w1) (o p:Obj):Six ((w1.alloc o).alloc p) b∧Below w.heap.size w ((w1.alloc o).alloc p):=
 ⟨h.below (below2 w1 o p),hb.trans ((below2 w1 o p).mono hb.size)⟩
theorem refText_str (s:ByteArray) (i:Nat) (w:World) (hs:s.size≤4194304) (h1:i<s.size) (hq:s[i]=34) :
  Calls Tryz.prog 151 #[.string s,.int .i64 (i:Int)] w (Told (quotedL lang.str 13 106 34 (s.data.toList.drop i)) i w):=by
 have hix:∀ u:World,(Instr.index 9 (.string s) (.int .i64 (i:Int))).run Tryz.prog u=.ok (.int .u8 34) u:=fun u=>by
  have:=index_at s _ i rfl h1 u
  rw[hq] at this
  exact this
 have hll:=lit_len 34 (s.data.toList.drop (i+1))
 rw[List.length_drop,sdata] at hll
 have HW:=Lib.hid (quoted_is lang.str 13 106 34 s i)
 have HQ:=Lib.hid (fun u n b=>refQuoted_then s i n b 34 u hs h1 hq (by decide))
 obtain⟨n,hn⟩:∃ n,n=1+(lit 34 (s.data.toList.drop (i+1))).1:=⟨_,rfl⟩
 obtain⟨b,hb⟩:∃ b,b=(lit 34 (s.data.toList.drop (i+1))).2:=⟨_,rfl⟩
 have HQ:=Lib.hid (fun u=>HQ.out u n b hn hb)
 rw[← hn,← hb] at HW
 have hle:i+n≤s.size:=by omega
 have hn1:1≤n:=by omega
 clear hb hll hq hn
 cases b with
 |false=>
  rw[if_pos rfl] at HW
  go_enter Tryz.func151,Tryz.ntmps151
  go_wp2_with (go_at_call 168;refine(HQ.out _).mono ?_;rintro e w1 ⟨rfl,hb⟩;have S1:=Lib.hid ((six_new w _ _ _ _ _ _ _ _).below hb);have HB:=Lib.hid (below2_then hb);have hsz:=hb.size;simp at hsz;have hz:w.heap.size+1<w1.heap.size:=(by omega);have hz0:w.heap.size<w1.heap.size:=(by omega);clear hb)
  have S3:=Lib.hid (six_two S1.out HB.out (.cells #[.int .i64 13,.int .i64 (i:Int),.int .i64 ((i:Int)+(n:Int))] 55) (.cells #[.int .i64 106,.int .i64 (i:Int),.int .i64 ((i:Int)+(n:Int))] 37))
  have HX:=Lib.hid (boxes_then (Below.refl ((w1.alloc (.cells #[.int .i64 13,.int .i64 (i:Int),.int .i64 ((i:Int)+(n:Int))] 55)).alloc (.cells #[.int .i64 106,.int .i64 (i:Int),.int .i64 ((i:Int)+(n:Int))] 37)).heap.size ((w1.alloc (.cells #[.int .i64 13,.int .i64 (i:Int),.int .i64 ((i:Int)+(n:Int))] 55)).alloc (.cells #[.int .i64 106,.int .i64 (i:Int),.int .i64 ((i:Int)+(n:Int))] 37))))
  generalize (w1.alloc (.cells #[.int .i64 13,.int .i64 (i:Int),.int .i64 ((i:Int)+(n:Int))] 55)).alloc (.cells #[.int .i64 106,.int .i64 (i:Int),.int .i64 ((i:Int)+(n:Int))] 37)=W at *
  obtain⟨⟨j0,j1,j2,j3,j4,j5⟩,g3,g4,g5⟩:=HX.out
  obtain⟨⟨u0,u1,u2,u3,u4,u5,k0,k1,k2,k3,k4,k5⟩,f0,f1,f2,f3,f4,f5⟩:=S3.out.1
  go_region
  go_wp2_with fail
  exact bodyPost_ret (results_drew Tryz.results151 _ S3.out.1 (.int .i64 13) (.int .i64 (i:Int)) (.int .i64 ((i:Int)+(n:Int))) (.int .i64 106) (.int .i64 (i:Int)) (.int .i64 ((i:Int)+(n:Int))) rfl rfl) rfl (Told.mk' (x:=(i:Int)) (y:=(i:Int)+(n:Int)) (by rw[HW.out];rfl) (by rw[HW.out];exact fun _=>⟨by simp [wrong],by simp [wrong]⟩) (below_put6 S3.out.2 (Nat.le_refl _) _ _ _ _ _ _).drew)
 |true=>
  rw[if_neg (by simp)] at HW
  have hsl:=piece_mid s i (i+n) (i:Int) ((i:Int)+(n:Int)) rfl (by omega) (by omega) hle
  rw[show i+n - i=n by omega] at hsl
  have HS:=Lib.hid (fun u=>refUnq_any (B ((s.data.toList.drop i).take n)) u (by rw[bsize,List.length_take,List.length_drop,sdata];omega))
  rw[bdata] at HS
  have HF:Hid ((lang.str ((s.data.toList.drop i).take n)).1=(unqOf ((s.data.toList.drop i).take n)).2.1∧(lang.str ((s.data.toList.drop i).take n)).2=(unqOf ((s.data.toList.drop i).take n)).2.2):=Lib.hid ⟨rfl,rfl⟩
  obtain⟨x,hx⟩:∃ x,(s.data.toList.drop i).take n=x:=⟨_,rfl⟩
  have hxl:x.length=n:=by rw[← hx,List.length_take,List.length_drop,sdata];omega
  have hxn:x≠[]:=by rintro rfl;simp at hxl;omega
  rw[hx] at hsl HS HF HW
  have hpl:=str_few x hxn
  rw[hxl,HF.out.2] at hpl
  obtain⟨v,c,p,hv⟩:∃ v c p,unqOf x=(v,c,p):=⟨_,_,_,rfl⟩
  rw[hv] at HS HF hpl
  have HT:=Lib.hid (quoted_told (i:=i) HW.out HF.out.1 HF.out.2)
  clear hx hv HW HF hxl hxn
  have hpl:p≤n:=hpl
  go_enter Tryz.func151,Tryz.ntmps151
  go_wp2_with (first|(go_at_call 168;refine(HQ.out _).mono ?_;rintro e w1 ⟨rfl,hb⟩;have S1:=Lib.hid ((six_new w _ _ _ _ _ _ _ _).below hb);have HB:=Lib.hid (below2_then hb);have hsz:=hb.size;simp at hsz;have hz:w.heap.size+1<w1.heap.size:=(by omega);have hz0:w.heap.size<w1.heap.size:=(by omega);clear hb)|(go_at_call 169;refine(HS.out _).mono ?_;rintro e w3 ⟨rfl,hb3⟩;obtain⟨⟨j0,j1,j2,j3,j4,j5⟩,g3,g4,g5⟩:=boxes_then hb3;have S3:=Lib.hid ((six_two S1.out HB.out _ _).1.below hb3);have HB3:=Lib.hid ((six_two S1.out HB.out _ _).2.trans (hb3.mono (six_two S1.out HB.out _ _).2.size));obtain⟨⟨u0,u1,u2,u3,u4,u5,k0,k1,k2,k3,k4,k5⟩,f0,f1,f2,f3,f4,f5⟩:=S3.out;clear hb3))
  exact bodyPost_ret (results_two Tryz.results151 _ S3.out (.int .i64 13) (.int .i64 (i:Int)) (.int .i64 ((i:Int)+(n:Int))) (.int .i64 c) (.int .i64 ((i:Int)+(p:Int))) (.int .i64 ((i:Int)+(p:Int)+1)) rfl rfl) rfl (Told.mk' (x:=(i:Int)+(p:Int)) (y:=(i:Int)+(p:Int)+1) (by rw[HT.out.1,HT.out.2.1,HT.out.2.2.1]) HT.out.2.2.2 (below_put6 HB3.out (Nat.le_refl _) _ _ _ _ _ _))
theorem refText_rune (s:ByteArray) (i:Nat) (w:World) (hs:s.size≤4194304) (h1:i<s.size) (hq:s[i]=39) :
  Calls Tryz.prog 151 #[.string s,.int .i64 (i:Int)] w (Told (quotedL lang.rune 12 107 39 (s.data.toList.drop i)) i w):=by
 have hix:∀ u:World,(Instr.index 9 (.string s) (.int .i64 (i:Int))).run Tryz.prog u=.ok (.int .u8 39) u:=fun u=>by
  have:=index_at s _ i rfl h1 u
  rw[hq] at this
  exact this
 have hll:=lit_len 39 (s.data.toList.drop (i+1))
 rw[List.length_drop,sdata] at hll
 have HW:=Lib.hid (quoted_is lang.rune 12 107 39 s i)
 have HQ:=Lib.hid (fun u n b=>refQuoted_then s i n b 39 u hs h1 hq (by decide))
 obtain⟨n,hn⟩:∃ n,n=1+(lit 39 (s.data.toList.drop (i+1))).1:=⟨_,rfl⟩
 obtain⟨b,hb⟩:∃ b,b=(lit 39 (s.data.toList.drop (i+1))).2:=⟨_,rfl⟩
 have HQ:=Lib.hid (fun u=>HQ.out u n b hn hb)
 rw[← hn,← hb] at HW
 have hle:i+n≤s.size:=by omega
 have hn1:1≤n:=by omega
 clear hb hll hq hn
 cases b with
 |false=>
  rw[if_pos rfl] at HW
  go_enter Tryz.func151,Tryz.ntmps151
  go_wp2_with (go_at_call 168;refine(HQ.out _).mono ?_;rintro e w1 ⟨rfl,hb⟩;have S1:=Lib.hid ((six_new w _ _ _ _ _ _ _ _).below hb);have HB:=Lib.hid (below2_then hb);have hsz:=hb.size;simp at hsz;have hz:w.heap.size+1<w1.heap.size:=(by omega);have hz0:w.heap.size<w1.heap.size:=(by omega);clear hb)
  have S3:=Lib.hid (six_two S1.out HB.out (.cells #[.int .i64 12,.int .i64 (i:Int),.int .i64 ((i:Int)+(n:Int))] 55) (.cells #[.int .i64 107,.int .i64 (i:Int),.int .i64 ((i:Int)+(n:Int))] 37))
  have HX:=Lib.hid (boxes_then (Below.refl ((w1.alloc (.cells #[.int .i64 12,.int .i64 (i:Int),.int .i64 ((i:Int)+(n:Int))] 55)).alloc (.cells #[.int .i64 107,.int .i64 (i:Int),.int .i64 ((i:Int)+(n:Int))] 37)).heap.size ((w1.alloc (.cells #[.int .i64 12,.int .i64 (i:Int),.int .i64 ((i:Int)+(n:Int))] 55)).alloc (.cells #[.int .i64 107,.int .i64 (i:Int),.int .i64 ((i:Int)+(n:Int))] 37))))
  generalize (w1.alloc (.cells #[.int .i64 12,.int .i64 (i:Int),.int .i64 ((i:Int)+(n:Int))] 55)).alloc (.cells #[.int .i64 107,.int .i64 (i:Int),.int .i64 ((i:Int)+(n:Int))] 37)=W at *
  obtain⟨⟨j0,j1,j2,j3,j4,j5⟩,g3,g4,g5⟩:=HX.out
  obtain⟨⟨u0,u1,u2,u3,u4,u5,k0,k1,k2,k3,k4,k5⟩,f0,f1,f2,f3,f4,f5⟩:=S3.out.1
  go_region
  go_wp2_with fail
  exact bodyPost_ret (results_drew Tryz.results151 _ S3.out.1 (.int .i64 12) (.int .i64 (i:Int)) (.int .i64 ((i:Int)+(n:Int))) (.int .i64 107) (.int .i64 (i:Int)) (.int .i64 ((i:Int)+(n:Int))) rfl rfl) rfl (Told.mk' (x:=(i:Int)) (y:=(i:Int)+(n:Int)) (by rw[HW.out];rfl) (by rw[HW.out];exact fun _=>⟨by simp [wrong],by simp [wrong]⟩) (below_put6 S3.out.2 (Nat.le_refl _) _ _ _ _ _ _).drew)
 |true=>
  rw[if_neg (by simp)] at HW
  have hsl:=piece_mid s i (i+n) (i:Int) ((i:Int)+(n:Int)) rfl (by omega) (by omega) hle
  rw[show i+n - i=n by omega] at hsl
  have HS:=Lib.hid (fun u=>refRune_any (B ((s.data.toList.drop i).take n)) u (by rw[bsize,List.length_take,List.length_drop,sdata];omega))
  rw[bdata] at HS
  have HF:Hid ((lang.rune ((s.data.toList.drop i).take n)).1=(runeOf ((s.data.toList.drop i).take n)).2.1∧(lang.rune ((s.data.toList.drop i).take n)).2=(runeOf ((s.data.toList.drop i).take n)).2.2):=Lib.hid ⟨rfl,rfl⟩
  obtain⟨x,hx⟩:∃ x,(s.data.toList.drop i).take n=x:=⟨_,rfl⟩
  have hxl:x.length=n:=by rw[← hx,List.length_take,List.length_drop,sdata];omega
  have hxn:x≠[]:=by rintro rfl;simp at hxl;omega
  rw[hx] at hsl HS HF HW
  have hpl:=rune_few x hxn
  rw[hxl,HF.out.2] at hpl
  obtain⟨v,c,p,hv⟩:∃ v c p,runeOf x=(v,c,p):=⟨_,_,_,rfl⟩
  rw[hv] at HS HF hpl
  have HT:=Lib.hid (quoted_told (i:=i) HW.out HF.out.1 HF.out.2)
  clear hx hv HW HF hxl hxn
  have hpl:p≤n:=hpl
  go_enter Tryz.func151,Tryz.ntmps151
  go_wp2_with (first|(go_at_call 168;refine(HQ.out _).mono ?_;rintro e w1 ⟨rfl,hb⟩;have S1:=Lib.hid ((six_new w _ _ _ _ _ _ _ _).below hb);have HB:=Lib.hid (below2_then hb);have hsz:=hb.size;simp at hsz;have hz:w.heap.size+1<w1.heap.size:=(by omega);have hz0:w.heap.size<w1.heap.size:=(by omega);clear hb)|(go_at_call 170;refine(HS.out _).mono ?_;rintro e w3 ⟨rfl,hb3⟩;obtain⟨⟨j0,j1,j2,j3,j4,j5⟩,g3,g4,g5⟩:=boxes_then hb3;have S3:=Lib.hid ((six_two S1.out HB.out _ _).1.below hb3);have HB3:=Lib.hid ((six_two S1.out HB.out _ _).2.trans (hb3.mono (six_two S1.out HB.out _ _).2.size));obtain⟨⟨u0,u1,u2,u3,u4,u5,k0,k1,k2,k3,k4,k5⟩,f0,f1,f2,f3,f4,f5⟩:=S3.out;clear hb3))
  exact bodyPost_ret (results_two Tryz.results151 _ S3.out (.int .i64 12) (.int .i64 (i:Int)) (.int .i64 ((i:Int)+(n:Int))) (.int .i64 c) (.int .i64 ((i:Int)+(p:Int))) (.int .i64 ((i:Int)+(p:Int)+1)) rfl rfl) rfl (Told.mk' (x:=(i:Int)+(p:Int)) (y:=(i:Int)+(p:Int)+1) (by rw[HT.out.1,HT.out.2.1,HT.out.2.2.1]) HT.out.2.2.2 (below_put6 HB3.out (Nat.le_refl _) _ _ _ _ _ _))
open Go.RowKit Go.Proofs.YtcekbbkidipbnaaGreat.tok
structure Four (w W:World) (x0 x1 x2 y0 y1 y2:Value):Prop where
 six:Six W w.heap.size
 x0:W.cell? ⟨w.heap.size+1+1,0,none⟩=some x0
 x1:W.cell? ⟨w.heap.size+1+1,1,none⟩=some x1
 x2:W.cell? ⟨w.heap.size+1+1,2,none⟩=some x2
 y0:W.cell? ⟨w.heap.size+1+1+1,0,none⟩=some y0
 y1:W.cell? ⟨w.heap.size+1+1+1,1,none⟩=some y1
 y2:W.cell? ⟨w.heap.size+1+1+1,2,none⟩=some y2
 f:(W.frozen? ⟨w.heap.size+1+1,0,none⟩=false∧W.frozen? ⟨w.heap.size+1+1,1,none⟩=false∧W.frozen? ⟨w.heap.size+1+1,2,none⟩=false)∧W.frozen? ⟨w.heap.size+1+1+1,0,none⟩=false∧W.frozen? ⟨w.heap.size+1+1+1,1,none⟩=false∧W.frozen? ⟨w.heap.size+1+1+1,2,none⟩=false
 below:Below w.heap.size w W
def boxes4 (w:World) (x0 x1 x2 y0 y1 y2:Value):World:=(((w.alloc (.cells #[.int .i64 0,.int .i64 0,.int .i64 0] 55)).alloc (.cells #[.int .i64 0,.int .i64 0,.int .i64 0] 37)).alloc (.cells #[x0,x1,x2] 55)).alloc (.cells #[y0,y1,y2] 37)
theorem four_new (w:World) (x0 x1 x2 y0 y1 y2:Value):Four w (boxes4 w x0 x1 x2 y0 y1 y2) x0 x1 x2 y0 y1 y2:=by
 have h6:=six_new w (.int .i64 0) (.int .i64 0) (.int .i64 0) (.int .i64 0) (.int .i64 0) (.int .i64 0) 55 37
 have hb:=below2 w (.cells #[.int .i64 0,.int .i64 0,.int .i64 0] 55) (.cells #[.int .i64 0,.int .i64 0,.int .i64 0] 37)
 unfold boxes4
 have hz:((w.alloc (.cells #[.int .i64 0,.int .i64 0,.int .i64 0] 55)).alloc (.cells #[.int .i64 0,.int .i64 0,.int .i64 0] 37)).heap.size=w.heap.size+1+1:=by rw[World.size_alloc,World.size_alloc]
 generalize (w.alloc (.cells #[.int .i64 0,.int .i64 0,.int .i64 0] 55)).alloc (.cells #[.int .i64 0,.int .i64 0,.int .i64 0] 37)=w1 at *
 have hn:=six_new w1 x0 x1 x2 y0 y1 y2 55 37
 obtain⟨⟨a0,a1,a2,b0,b1,b2⟩,_⟩:=boxes_then (Below.refl ((w1.alloc (.cells #[x0,x1,x2] 55)).alloc (.cells #[y0,y1,y2] 37)).heap.size ((w1.alloc (.cells #[x0,x1,x2] 55)).alloc (.cells #[y0,y1,y2] 37)))
 rw[hz] at hn a0 a1 a2 b0 b1 b2
 obtain⟨_,f0,f1,f2,g0,g1,g2⟩:=hn
 exact⟨h6.below (below2 _ _ _),a0,a1,a2,b0,b1,b2,⟨⟨f0,f1,f2⟩,g0,g1,g2⟩,hb.trans ((below2 w1 _ _).mono (by omega))⟩
theorem Four.then {w W W':World} {x0 x1 x2 y0 y1 y2:Value} (h:Four w W x0 x1 x2 y0 y1 y2) (hb:Below W.heap.size W W'):Four w W' x0 x1 x2 y0 y1 y2:=by
 obtain⟨h6,a0,a1,a2,b0,b1,b2,⟨⟨f0,f1,f2⟩,g0,g1,g2⟩,hbl⟩:=h
 obtain⟨hc,hf⟩:=bcell hb
 have la:=World.block_lt_of_cell? _ _ a0
 have lb:=World.block_lt_of_cell? _ _ b0
 exact⟨h6.below hb,(hc _ _ la).trans a0,(hc _ _ la).trans a1,(hc _ _ la).trans a2,(hc _ _ lb).trans b0,(hc _ _ lb).trans b1,(hc _ _ lb).trans b2,⟨⟨(hf _ _ la).trans f0,(hf _ _ la).trans f1,(hf _ _ la).trans f2⟩,(hf _ _ lb).trans g0,(hf _ _ lb).trans g1,(hf _ _ lb).trans g2⟩,hbl.trans (hb.mono hbl.size)⟩
theorem Four.set2 {w W:World} {x0 x1 x2 y0 y1 y2:Value} (h:Four w W x0 x1 x2 y0 y1 y2) (v:Value):Four w (W.setCell ⟨w.heap.size+1+1,2,none⟩ v) x0 x1 v y0 y1 y2:=by
 obtain⟨h6,a0,a1,a2,b0,b1,b2,⟨⟨f0,f1,f2⟩,g0,g1,g2⟩,hbl⟩:=h
 refine⟨six_past h6 (by omega) v,?_,?_,?_,?_,?_,?_,⟨⟨?_,?_,?_⟩,?_,?_,?_⟩,hbl.setCell (by show w.heap.size≤w.heap.size+1+1;omega) v⟩
 all_goals simp [World.cell?_setCell_other,World.cell?_setCell_same',a0,a1,a2,b0,b1,b2,f0,f1,f2,g0,g1,g2]
theorem Four.set0 {w W:World} {x0 x1 x2 y0 y1 y2:Value} (h:Four w W x0 x1 x2 y0 y1 y2) (v:Value):Four w (W.setCell ⟨w.heap.size+1+1,0,none⟩ v) v x1 x2 y0 y1 y2:=by
 obtain⟨h6,a0,a1,a2,b0,b1,b2,⟨⟨f0,f1,f2⟩,g0,g1,g2⟩,hbl⟩:=h
 refine⟨six_past h6 (by omega) v,?_,?_,?_,?_,?_,?_,⟨⟨?_,?_,?_⟩,?_,?_,?_⟩,hbl.setCell (by show w.heap.size≤w.heap.size+1+1;omega) v⟩
 all_goals simp [World.cell?_setCell_other,World.cell?_setCell_same',a0,a1,a2,b0,b1,b2,f0,f1,f2,g0,g1,g2]
theorem refBlank_then (c:UInt8) (w:World):Calls Tryz.prog 146 #[.int .u8 (c.toNat:Int)] w (fun e w'=>e=.returned (.bool (isBl c))∧Below w.heap.size w w'):=by
 refine(refBlank_any c w).mono ?_
 rintro e w' ⟨rfl,rfl⟩
 exact⟨rfl,Below.refl _ _⟩
theorem below_at {B0:Nat} {a W:World} {q o:Nat} (h:Below B0 a W) (hq:B0≤q) (v:Value):Below B0 a (W.setCell ⟨q,o,none⟩ v):=h.setCell (p:=⟨q,o,none⟩) hq v
theorem nm_cases {s:ByteArray} {i:Nat} (h:i≠0∨Lib.hasPrefix s.data.toList mark=false):i≠0∨(i=0∧s.size<3)∨(i=0∧3≤s.size∧((B (s.data.toList.take 3)).toList == [239,187,191])=false):=by
 by_cases h0:i=0
 ·refine .inr ?_
  by_cases h3:s.size<3
  ·exact .inl ⟨h0,h3⟩
  ·refine .inr ⟨h0,by omega,?_⟩
   have:=h.resolve_left (fun h=>h h0)
   rw[blist]
   have e:=piece_is s.data.toList mark 0
   rw[List.drop_zero] at e
   exact e.trans this
 ·exact .inl h0
theorem run_to {p:UInt8→Bool} {l:List UInt8} {i n:Nat} (hi:i≤n) (hn:n<l.length) (h:∀ j,i≤j→j<n→∀ h:j<l.length,p l[j]=true) (hf:p l[n]=false):i+runL p (l.drop i)=n:=by
 have hl:n - i<(l.drop i).length:=by rw[List.length_drop];omega
 have:=runL_more (p:=p) (l:=l.drop i) (k:=n - i) hl (fun j hj hj'=>by
  rw[List.getElem_drop]
  exact h (i+j) (by omega) (by omega) (by rw[List.length_drop] at hj';omega)) hl (by
  rw[List.getElem_drop]
  have e:i+(n - i)=n:=by omega
  simp only[e]
  exact hf)
 omega
theorem run_end {p:UInt8→Bool} {l:List UInt8} {i:Nat} (hi:i≤l.length) (h:∀ j,i≤j→∀ h:j<l.length,p l[j]=true):i+runL p (l.drop i)=l.length:=by
 have:=runL_all (p:=p) (l:=l.drop i) (fun j hj=>by
  rw[List.getElem_drop]
  exact h (i+j) (by omega) (by rw[List.length_drop] at hj;omega))
 rw[this,List.length_drop]
 omega
theorem find_feed (l:List UInt8) (i:Nat) (hi:i≤l.length):findL l i [10]=i+runL noFeed (l.drop i):=by
 have hr:=runL_len noFeed (l.drop i)
 rw[List.length_drop] at hr
 have hno:∀ j,i≤j→j<i+runL noFeed (l.drop i)→Lib.hasPrefix (l.drop j) [10]=false:=by
  intro j h1 h2
  have hj:j<l.length:=by omega
  have key:∀ (r:List UInt8) (k:Nat) (hk:k<runL noFeed r) (h:k<r.length),r[k]≠10:=by
   intro r
   induction r with
   |nil=>intro k hk;simp [runL] at hk
   |cons c r ih=>
    intro k hk h
    rw[runL] at hk
    split at hk
    ·rename_i hc
     cases k with
     |zero=>simp only[List.getElem_cons_zero];unfold noFeed at hc;simpa using hc
     |succ k=>simp only[List.getElem_cons_succ];exact ih k (by omega) _
    ·omega
  have:=key (l.drop i) (j - i) (by omega) (by rw[List.length_drop];omega)
  rw[List.getElem_drop] at this
  have e:i+(j - i)=j:=by omega
  simp only[e] at this
  rw[List.drop_eq_getElem_cons hj]
  simp [Lib.hasPrefix,List.isPrefixOf]
  exact fun h=>this h.symm
 by_cases hn:i+runL noFeed (l.drop i)<l.length
 ·refine find_hit (by omega) (by omega) ?_ hno
  have hp:runL noFeed (l.drop i)<(l.drop i).length:=by rw[List.length_drop];omega
  have key:∀ (r:List UInt8),(h:runL noFeed r<r.length)→r[runL noFeed r]=10:=by
   intro r
   induction r with
   |nil=>intro h;simp [runL] at h
   |cons c r ih=>
    intro h
    by_cases hc:noFeed c=true
    ·have e:runL noFeed (c::r)=runL noFeed r+1:=by rw[runL,if_pos hc]
     simp only[e,List.length_cons] at h ⊢
     simp only[List.getElem_cons_succ]
     exact ih (by omega)
    ·have e:runL noFeed (c::r)=0:=by rw[runL,if_neg hc]
     simp only[e,List.getElem_cons_zero]
     unfold noFeed at hc
     simpa using hc
  have:=key _ hp
  rw[List.getElem_drop] at this
  rw[List.drop_eq_getElem_cons hn,this]
  rfl
 ·have hq:i+runL noFeed (l.drop i)=l.length:=by omega
  rw[hq]
  exact find_miss (n:=l.length) hi (by simp) (fun j h1 h2=>hno j h1 (by omega))
open Go.RowKit Go.Proofs.YtcekbbkidipbnaaGreat.tok
theorem refNext_3 {s:ByteArray} {i:Nat} {c:UInt8} {w:World} (hlt:i<s.size) (hc:s[i]=c) (hs:s.size≤4194304) (m:Nx) (hm:m=right 2 1) (h1:i≠0∨Lib.hasPrefix s.data.toList mark=false) (h2:isBl c=false) (h3:c=10) :
  Calls Tryz.prog 134 #[.string s,.int .i64 (i:Int)] w (Told m i w):=by
 have HW:=Lib.hid hm
 have HSD:=Lib.hid (sdata s)
 have hix:∀ u:World,(Instr.index 9 (.string s) (.int .i64 (i:Int))).run Tryz.prog u=.ok (.int .u8 (c.toNat:Int)) u:=fun u=>by rw[← hc];exact index_at s _ i rfl hlt u
 have H2:=Lib.hid (fun u=>refBlank_then c u)
 rw[h2] at H2
 have b10:((c.toNat:Int) == 10)=true:=byte_eq (d:=10) h3
 clear h2 h3 hm hc
 rcases nm_cases h1 with h1|⟨h1,h3⟩|⟨h1,h3,h4⟩
 ·have b1:((i:Int) == 0)=false:=beq_eq_false_iff_ne.2 (by omega)
  clear h1
  go_enter Tryz.func134,Tryz.ntmps134
  go_wp2_with (go_at_call 146;refine(H2.out _).mono ?_;rintro e W ⟨rfl,hbW⟩;have HF:=Lib.hid ((four_new w (.int .i64 0) (.int .i64 (i:Int)) (.int .i64 ((i:Int)+1)) (.int .i64 0) (.int .i64 (i:Int)) (.int .i64 0)).then hbW);obtain⟨⟨⟨u0,u1,u2,u3,u4,u5,k0,k1,k2,k3,k4,k5⟩,f0,f1,f2,f3,f4,f5⟩,x0,x1,x2,y0,y1,y2,⟨⟨g0,g1,g2⟩,g3,g4,g5⟩,_⟩:=HF.out;clear hbW)
  go_region
  go_wp2_with fail
  exact bodyPost_ret (results_drew Tryz.results134 _ (by repeat (first|exact HF.out.six|refine six_past ?_ (by omega) _)) (.int .i64 2) (.int .i64 (i:Int)) (.int .i64 ((i:Int)+1)) (.int .i64 0) (.int .i64 (i:Int)) (.int .i64 ((i:Int)+1)) rfl rfl) rfl (Told.mk' (x:=(i:Int)) (y:=((i:Int)+1)) (by rw[HW.out];rfl) (by rw[HW.out];exact fun h=>absurd rfl h) (below_put6 (by repeat (first|exact HF.out.below|refine below_at ?_ (by omega) _)) (Nat.le_refl _) _ _ _ _ _ _).drew)
 ·have b1:((i:Int) == 0)=true:=beq_iff_eq.2 (by omega)
  have d3:decide (3≤(s.size:Int))=false:=decide_eq_false (by omega)
  clear h1 h3
  go_enter Tryz.func134,Tryz.ntmps134
  go_wp2_with (go_at_call 146;refine(H2.out _).mono ?_;rintro e W ⟨rfl,hbW⟩;have HF:=Lib.hid ((four_new w (.int .i64 0) (.int .i64 (i:Int)) (.int .i64 ((i:Int)+1)) (.int .i64 0) (.int .i64 (i:Int)) (.int .i64 0)).then hbW);obtain⟨⟨⟨u0,u1,u2,u3,u4,u5,k0,k1,k2,k3,k4,k5⟩,f0,f1,f2,f3,f4,f5⟩,x0,x1,x2,y0,y1,y2,⟨⟨g0,g1,g2⟩,g3,g4,g5⟩,_⟩:=HF.out;clear hbW)
  go_region
  go_wp2_with fail
  exact bodyPost_ret (results_drew Tryz.results134 _ (by repeat (first|exact HF.out.six|refine six_past ?_ (by omega) _)) (.int .i64 2) (.int .i64 (i:Int)) (.int .i64 ((i:Int)+1)) (.int .i64 0) (.int .i64 (i:Int)) (.int .i64 ((i:Int)+1)) rfl rfl) rfl (Told.mk' (x:=(i:Int)) (y:=((i:Int)+1)) (by rw[HW.out];rfl) (by rw[HW.out];exact fun h=>absurd rfl h) (below_put6 (by repeat (first|exact HF.out.below|refine below_at ?_ (by omega) _)) (Nat.le_refl _) _ _ _ _ _ _).drew)
 ·have b1:((i:Int) == 0)=true:=beq_iff_eq.2 (by omega)
  have d3:decide (3≤(s.size:Int))=true:=decide_eq_true (by omega)
  have hsl3:=slice_to s 3 3 rfl h3
  obtain⟨x3,hx3⟩:∃ x,B (s.data.toList.take 3)=x:=⟨_,rfl⟩
  rw[hx3] at h4 hsl3
  clear h1 h3 hx3
  go_enter Tryz.func134,Tryz.ntmps134
  go_wp2_with (go_at_call 146;refine(H2.out _).mono ?_;rintro e W ⟨rfl,hbW⟩;have HF:=Lib.hid ((four_new w (.int .i64 0) (.int .i64 (i:Int)) (.int .i64 ((i:Int)+1)) (.int .i64 0) (.int .i64 (i:Int)) (.int .i64 0)).then hbW);obtain⟨⟨⟨u0,u1,u2,u3,u4,u5,k0,k1,k2,k3,k4,k5⟩,f0,f1,f2,f3,f4,f5⟩,x0,x1,x2,y0,y1,y2,⟨⟨g0,g1,g2⟩,g3,g4,g5⟩,_⟩:=HF.out;clear hbW)
  go_region
  go_wp2_with fail
  exact bodyPost_ret (results_drew Tryz.results134 _ (by repeat (first|exact HF.out.six|refine six_past ?_ (by omega) _)) (.int .i64 2) (.int .i64 (i:Int)) (.int .i64 ((i:Int)+1)) (.int .i64 0) (.int .i64 (i:Int)) (.int .i64 ((i:Int)+1)) rfl rfl) rfl (Told.mk' (x:=(i:Int)) (y:=((i:Int)+1)) (by rw[HW.out];rfl) (by rw[HW.out];exact fun h=>absurd rfl h) (below_put6 (by repeat (first|exact HF.out.below|refine below_at ?_ (by omega) _)) (Nat.le_refl _) _ _ _ _ _ _).drew)
open Go.RowKit Go.Proofs.YtcekbbkidipbnaaGreat.tok
theorem refNext_2 {s:ByteArray} {i:Nat} {c:UInt8} {w:World} (hlt:i<s.size) (hc:s[i]=c) (hs:s.size≤4194304) (m:Nx) (hm:m=right 1 (runL isBl (s.data.toList.drop i))) (h1:i≠0∨Lib.hasPrefix s.data.toList mark=false) (h2:isBl c=true) :
  Calls Tryz.prog 134 #[.string s,.int .i64 (i:Int)] w (Told m i w):=by
 have HW:=Lib.hid hm
 have HSD:=Lib.hid (sdata s)
 have hix:∀ u:World,(Instr.index 9 (.string s) (.int .i64 (i:Int))).run Tryz.prog u=.ok (.int .u8 (c.toNat:Int)) u:=fun u=>by rw[← hc];exact index_at s _ i rfl hlt u
 have HC:Hid (∀ h:i<s.data.toList.length,isBl s.data.toList[i]=true):=Lib.hid (fun _=>by rw[show s.data.toList[i]=s[i] from rfl,hc];exact h2)
 have H2:=Lib.hid (fun u=>refBlank_then c u)
 rw[h2] at H2
 clear h2 hm hc
 rcases nm_cases h1 with h1|⟨h1,h3⟩|⟨h1,h3,h4⟩
 ·have b1:((i:Int) == 0)=false:=beq_eq_false_iff_ne.2 (by omega)
  clear h1
  go_enter Tryz.func134,Tryz.ntmps134
  go_wp2_with (go_at_call 146;refine(H2.out _).mono ?_;rintro e W ⟨rfl,hbW⟩;have HF:=Lib.hid ((four_new w (.int .i64 0) (.int .i64 (i:Int)) (.int .i64 ((i:Int)+1)) (.int .i64 0) (.int .i64 (i:Int)) (.int .i64 0)).then hbW);obtain⟨⟨⟨u0,u1,u2,u3,u4,u5,k0,k1,k2,k3,k4,k5⟩,f0,f1,f2,f3,f4,f5⟩,x0,x1,x2,y0,y1,y2,⟨⟨g0,g1,g2⟩,g3,g4,g5⟩,_⟩:=HF.out;clear hbW)
  have HF1:=Lib.hid (HF.out.set0 (.int .i64 1))
  have e1:((i:Int)+1)=((i+1:Nat):Int):=by omega
  have HF2:=HF1
  rw[e1] at HF2
  clear k0 k1 k2 k3 k4 k5 f0 f1 f2 f3 f4 f5 x0 x1 x2 y0 y1 y2 g0 g1 g2 g3 g4 g5
  go_loopw [] (fun wr=>∃ n:Nat,i<n∧n≤s.size∧Four w wr (.int .i64 1) (.int .i64 (i:Int)) (.int .i64 (n:Int)) (.int .i64 0) (.int .i64 (i:Int)) (.int .i64 0)∧∀ j,i≤j→j<n→∀ h:j<s.data.toList.length,isBl s.data.toList[j]=true) (fun wr=>s.size - (intOf ((wr.cell? ⟨w.heap.size+1+1,2,none⟩).getD undef)).toNat)
  case atStart=>exact⟨i+1,by omega,by omega,HF2.out,fun j g1 g2 h=>by
           obtain rfl:j=i:=by omega
           exact HC.out h⟩
  case round=>
   obtain⟨n,hn1,hn2,hfo,hall⟩:=hrel
   have HR:=Lib.hid hfo
   have HA:=Lib.hid hall
   clear hfo hall HF HF1 HF2 e1
   obtain⟨⟨⟨u0,u1,u2,u3,u4,u5,k0,k1,k2,k3,k4,k5⟩,f0,f1,f2,f3,f4,f5⟩,x0,x1,x2,y0,y1,y2,⟨⟨g0,g1,g2⟩,g3,g4,g5⟩,_⟩:=HR.out
   by_cases hlt2:n<s.size
   ·obtain⟨d,hd⟩:∃ d,s[n]'hlt2=d:=⟨_,rfl⟩
    have hixn:∀ u:World,(Instr.index 9 (.string s) (.int .i64 (n:Int))).run Tryz.prog u=.ok (.int .u8 (d.toNat:Int)) u:=fun u=>by rw[← hd];exact index_at s _ n rfl hlt2 u
    have HD:Hid (∀ h:n<s.data.toList.length,s.data.toList[n]=d):=Lib.hid (fun _=>by rw[← hd];rfl)
    have dlt:decide ((n:Int)<(s.size:Int))=true:=decide_eq_true (by omega)
    clear hd
    cases hp:isBl d with
    |true=>
     have H3:=Lib.hid (fun u=>refBlank_any d u)
     rw[hp] at H3
     have HP:=Lib.hid hp
     clear hp
     go_wp2_with (go_at_call 146;refine(H3.out _).mono ?_;rintro e w' ⟨rfl,rfl⟩)
     go_roundw
     case rel=>exact⟨n+1,by omega,by omega,by have:=HR.out.set2 (.int .i64 ((n+1:Nat):Int));exact this,fun j g1 g2 h=>by
            by_cases e:j=n
            ·subst e;rw[HD.out h];exact HP.out
            ·exact HA.out j g1 (by omega) h⟩
     case measure=>have e2:=(HR.out.set2 (.int .i64 ((n:Int)+1))).x2;simp only[x2,e2,Option.getD_some,intOf];omega
    |false=>
     have H3:=Lib.hid (fun u=>refBlank_any d u)
     rw[hp] at H3
     have HP:=Lib.hid hp
     clear hp
     have HE:Hid (i+runL isBl (s.data.toList.drop i)=n):=Lib.hid (run_to (by omega) (by rw[HSD.out];exact hlt2) HA.out (by rw[HD.out (by rw[HSD.out];exact hlt2)];exact HP.out))
     go_wp2_with (go_at_call 146;refine(H3.out _).mono ?_;rintro e w' ⟨rfl,rfl⟩)
     go_region
     go_wp2_with fail
     exact bodyPost_ret (results_drew Tryz.results134 _ (by repeat (first|exact HR.out.six|refine six_past ?_ (by omega) _)) (.int .i64 1) (.int .i64 (i:Int)) (.int .i64 (n:Int)) (.int .i64 0) (.int .i64 (i:Int)) (.int .i64 (n:Int)) rfl rfl) rfl (Told.mk' (x:=(i:Int)) (y:=(n:Int)) (by rw[HW.out,show((i:Int)+((right 1 (runL isBl (s.data.toList.drop i))).width:Int))=(n:Int) by have:=HE.out;simp only[right];omega];rfl) (by rw[HW.out];exact fun h=>absurd rfl h) (below_put6 (by repeat (first|exact HR.out.below|refine below_at ?_ (by omega) _)) (Nat.le_refl _) _ _ _ _ _ _).drew)
   ·have dlt:decide ((n:Int)<(s.size:Int))=false:=decide_eq_false (by omega)
    obtain rfl:n=s.size:=by omega
    have HE:Hid (i+runL isBl (s.data.toList.drop i)=s.size):=Lib.hid (by rw[run_end (by rw[HSD.out];omega) (fun j g1 h=>HA.out j g1 (by rw[HSD.out] at h;omega) h),HSD.out])
    go_wp2_with fail
    go_region
    go_wp2_with fail
    exact bodyPost_ret (results_drew Tryz.results134 _ (by repeat (first|exact HR.out.six|refine six_past ?_ (by omega) _)) (.int .i64 1) (.int .i64 (i:Int)) (.int .i64 (s.size:Int)) (.int .i64 0) (.int .i64 (i:Int)) (.int .i64 (s.size:Int)) rfl rfl) rfl (Told.mk' (x:=(i:Int)) (y:=(s.size:Int)) (by rw[HW.out,show((i:Int)+((right 1 (runL isBl (s.data.toList.drop i))).width:Int))=(s.size:Int) by have:=HE.out;simp only[right];omega];rfl) (by rw[HW.out];exact fun h=>absurd rfl h) (below_put6 (by repeat (first|exact HR.out.below|refine below_at ?_ (by omega) _)) (Nat.le_refl _) _ _ _ _ _ _).drew)
 ·have b1:((i:Int) == 0)=true:=beq_iff_eq.2 (by omega)
  have d3:decide (3≤(s.size:Int))=false:=decide_eq_false (by omega)
  clear h1 h3
  go_enter Tryz.func134,Tryz.ntmps134
  go_wp2_with (go_at_call 146;refine(H2.out _).mono ?_;rintro e W ⟨rfl,hbW⟩;have HF:=Lib.hid ((four_new w (.int .i64 0) (.int .i64 (i:Int)) (.int .i64 ((i:Int)+1)) (.int .i64 0) (.int .i64 (i:Int)) (.int .i64 0)).then hbW);obtain⟨⟨⟨u0,u1,u2,u3,u4,u5,k0,k1,k2,k3,k4,k5⟩,f0,f1,f2,f3,f4,f5⟩,x0,x1,x2,y0,y1,y2,⟨⟨g0,g1,g2⟩,g3,g4,g5⟩,_⟩:=HF.out;clear hbW)
  have HF1:=Lib.hid (HF.out.set0 (.int .i64 1))
  have e1:((i:Int)+1)=((i+1:Nat):Int):=by omega
  have HF2:=HF1
  rw[e1] at HF2
  clear k0 k1 k2 k3 k4 k5 f0 f1 f2 f3 f4 f5 x0 x1 x2 y0 y1 y2 g0 g1 g2 g3 g4 g5
  go_loopw [] (fun wr=>∃ n:Nat,i<n∧n≤s.size∧Four w wr (.int .i64 1) (.int .i64 (i:Int)) (.int .i64 (n:Int)) (.int .i64 0) (.int .i64 (i:Int)) (.int .i64 0)∧∀ j,i≤j→j<n→∀ h:j<s.data.toList.length,isBl s.data.toList[j]=true) (fun wr=>s.size - (intOf ((wr.cell? ⟨w.heap.size+1+1,2,none⟩).getD undef)).toNat)
  case atStart=>exact⟨i+1,by omega,by omega,HF2.out,fun j g1 g2 h=>by
           obtain rfl:j=i:=by omega
           exact HC.out h⟩
  case round=>
   obtain⟨n,hn1,hn2,hfo,hall⟩:=hrel
   have HR:=Lib.hid hfo
   have HA:=Lib.hid hall
   clear hfo hall HF HF1 HF2 e1
   obtain⟨⟨⟨u0,u1,u2,u3,u4,u5,k0,k1,k2,k3,k4,k5⟩,f0,f1,f2,f3,f4,f5⟩,x0,x1,x2,y0,y1,y2,⟨⟨g0,g1,g2⟩,g3,g4,g5⟩,_⟩:=HR.out
   by_cases hlt2:n<s.size
   ·obtain⟨d,hd⟩:∃ d,s[n]'hlt2=d:=⟨_,rfl⟩
    have hixn:∀ u:World,(Instr.index 9 (.string s) (.int .i64 (n:Int))).run Tryz.prog u=.ok (.int .u8 (d.toNat:Int)) u:=fun u=>by rw[← hd];exact index_at s _ n rfl hlt2 u
    have HD:Hid (∀ h:n<s.data.toList.length,s.data.toList[n]=d):=Lib.hid (fun _=>by rw[← hd];rfl)
    have dlt:decide ((n:Int)<(s.size:Int))=true:=decide_eq_true (by omega)
    clear hd
    cases hp:isBl d with
    |true=>
     have H3:=Lib.hid (fun u=>refBlank_any d u)
     rw[hp] at H3
     have HP:=Lib.hid hp
     clear hp
     go_wp2_with (go_at_call 146;refine(H3.out _).mono ?_;rintro e w' ⟨rfl,rfl⟩)
     go_roundw
     case rel=>exact⟨n+1,by omega,by omega,by have:=HR.out.set2 (.int .i64 ((n+1:Nat):Int));exact this,fun j g1 g2 h=>by
            by_cases e:j=n
            ·subst e;rw[HD.out h];exact HP.out
            ·exact HA.out j g1 (by omega) h⟩
     case measure=>have e2:=(HR.out.set2 (.int .i64 ((n:Int)+1))).x2;simp only[x2,e2,Option.getD_some,intOf];omega
    |false=>
     have H3:=Lib.hid (fun u=>refBlank_any d u)
     rw[hp] at H3
     have HP:=Lib.hid hp
     clear hp
     have HE:Hid (i+runL isBl (s.data.toList.drop i)=n):=Lib.hid (run_to (by omega) (by rw[HSD.out];exact hlt2) HA.out (by rw[HD.out (by rw[HSD.out];exact hlt2)];exact HP.out))
     go_wp2_with (go_at_call 146;refine(H3.out _).mono ?_;rintro e w' ⟨rfl,rfl⟩)
     go_region
     go_wp2_with fail
     exact bodyPost_ret (results_drew Tryz.results134 _ (by repeat (first|exact HR.out.six|refine six_past ?_ (by omega) _)) (.int .i64 1) (.int .i64 (i:Int)) (.int .i64 (n:Int)) (.int .i64 0) (.int .i64 (i:Int)) (.int .i64 (n:Int)) rfl rfl) rfl (Told.mk' (x:=(i:Int)) (y:=(n:Int)) (by rw[HW.out,show((i:Int)+((right 1 (runL isBl (s.data.toList.drop i))).width:Int))=(n:Int) by have:=HE.out;simp only[right];omega];rfl) (by rw[HW.out];exact fun h=>absurd rfl h) (below_put6 (by repeat (first|exact HR.out.below|refine below_at ?_ (by omega) _)) (Nat.le_refl _) _ _ _ _ _ _).drew)
   ·have dlt:decide ((n:Int)<(s.size:Int))=false:=decide_eq_false (by omega)
    obtain rfl:n=s.size:=by omega
    have HE:Hid (i+runL isBl (s.data.toList.drop i)=s.size):=Lib.hid (by rw[run_end (by rw[HSD.out];omega) (fun j g1 h=>HA.out j g1 (by rw[HSD.out] at h;omega) h),HSD.out])
    go_wp2_with fail
    go_region
    go_wp2_with fail
    exact bodyPost_ret (results_drew Tryz.results134 _ (by repeat (first|exact HR.out.six|refine six_past ?_ (by omega) _)) (.int .i64 1) (.int .i64 (i:Int)) (.int .i64 (s.size:Int)) (.int .i64 0) (.int .i64 (i:Int)) (.int .i64 (s.size:Int)) rfl rfl) rfl (Told.mk' (x:=(i:Int)) (y:=(s.size:Int)) (by rw[HW.out,show((i:Int)+((right 1 (runL isBl (s.data.toList.drop i))).width:Int))=(s.size:Int) by have:=HE.out;simp only[right];omega];rfl) (by rw[HW.out];exact fun h=>absurd rfl h) (below_put6 (by repeat (first|exact HR.out.below|refine below_at ?_ (by omega) _)) (Nat.le_refl _) _ _ _ _ _ _).drew)
 ·have b1:((i:Int) == 0)=true:=beq_iff_eq.2 (by omega)
  have d3:decide (3≤(s.size:Int))=true:=decide_eq_true (by omega)
  have hsl3:=slice_to s 3 3 rfl h3
  obtain⟨x3,hx3⟩:∃ x,B (s.data.toList.take 3)=x:=⟨_,rfl⟩
  rw[hx3] at h4 hsl3
  clear h1 h3 hx3
  go_enter Tryz.func134,Tryz.ntmps134
  go_wp2_with (go_at_call 146;refine(H2.out _).mono ?_;rintro e W ⟨rfl,hbW⟩;have HF:=Lib.hid ((four_new w (.int .i64 0) (.int .i64 (i:Int)) (.int .i64 ((i:Int)+1)) (.int .i64 0) (.int .i64 (i:Int)) (.int .i64 0)).then hbW);obtain⟨⟨⟨u0,u1,u2,u3,u4,u5,k0,k1,k2,k3,k4,k5⟩,f0,f1,f2,f3,f4,f5⟩,x0,x1,x2,y0,y1,y2,⟨⟨g0,g1,g2⟩,g3,g4,g5⟩,_⟩:=HF.out;clear hbW)
  have HF1:=Lib.hid (HF.out.set0 (.int .i64 1))
  have e1:((i:Int)+1)=((i+1:Nat):Int):=by omega
  have HF2:=HF1
  rw[e1] at HF2
  clear k0 k1 k2 k3 k4 k5 f0 f1 f2 f3 f4 f5 x0 x1 x2 y0 y1 y2 g0 g1 g2 g3 g4 g5
  go_loopw [] (fun wr=>∃ n:Nat,i<n∧n≤s.size∧Four w wr (.int .i64 1) (.int .i64 (i:Int)) (.int .i64 (n:Int)) (.int .i64 0) (.int .i64 (i:Int)) (.int .i64 0)∧∀ j,i≤j→j<n→∀ h:j<s.data.toList.length,isBl s.data.toList[j]=true) (fun wr=>s.size - (intOf ((wr.cell? ⟨w.heap.size+1+1,2,none⟩).getD undef)).toNat)
  case atStart=>exact⟨i+1,by omega,by omega,HF2.out,fun j g1 g2 h=>by
           obtain rfl:j=i:=by omega
           exact HC.out h⟩
  case round=>
   obtain⟨n,hn1,hn2,hfo,hall⟩:=hrel
   have HR:=Lib.hid hfo
   have HA:=Lib.hid hall
   clear hfo hall HF HF1 HF2 e1
   obtain⟨⟨⟨u0,u1,u2,u3,u4,u5,k0,k1,k2,k3,k4,k5⟩,f0,f1,f2,f3,f4,f5⟩,x0,x1,x2,y0,y1,y2,⟨⟨g0,g1,g2⟩,g3,g4,g5⟩,_⟩:=HR.out
   by_cases hlt2:n<s.size
   ·obtain⟨d,hd⟩:∃ d,s[n]'hlt2=d:=⟨_,rfl⟩
    have hixn:∀ u:World,(Instr.index 9 (.string s) (.int .i64 (n:Int))).run Tryz.prog u=.ok (.int .u8 (d.toNat:Int)) u:=fun u=>by rw[← hd];exact index_at s _ n rfl hlt2 u
    have HD:Hid (∀ h:n<s.data.toList.length,s.data.toList[n]=d):=Lib.hid (fun _=>by rw[← hd];rfl)
    have dlt:decide ((n:Int)<(s.size:Int))=true:=decide_eq_true (by omega)
    clear hd
    cases hp:isBl d with
    |true=>
     have H3:=Lib.hid (fun u=>refBlank_any d u)
     rw[hp] at H3
     have HP:=Lib.hid hp
     clear hp
     go_wp2_with (go_at_call 146;refine(H3.out _).mono ?_;rintro e w' ⟨rfl,rfl⟩)
     go_roundw
     case rel=>exact⟨n+1,by omega,by omega,by have:=HR.out.set2 (.int .i64 ((n+1:Nat):Int));exact this,fun j g1 g2 h=>by
            by_cases e:j=n
            ·subst e;rw[HD.out h];exact HP.out
            ·exact HA.out j g1 (by omega) h⟩
     case measure=>have e2:=(HR.out.set2 (.int .i64 ((n:Int)+1))).x2;simp only[x2,e2,Option.getD_some,intOf];omega
    |false=>
     have H3:=Lib.hid (fun u=>refBlank_any d u)
     rw[hp] at H3
     have HP:=Lib.hid hp
     clear hp
     have HE:Hid (i+runL isBl (s.data.toList.drop i)=n):=Lib.hid (run_to (by omega) (by rw[HSD.out];exact hlt2) HA.out (by rw[HD.out (by rw[HSD.out];exact hlt2)];exact HP.out))
     go_wp2_with (go_at_call 146;refine(H3.out _).mono ?_;rintro e w' ⟨rfl,rfl⟩)
     go_region
     go_wp2_with fail
     exact bodyPost_ret (results_drew Tryz.results134 _ (by repeat (first|exact HR.out.six|refine six_past ?_ (by omega) _)) (.int .i64 1) (.int .i64 (i:Int)) (.int .i64 (n:Int)) (.int .i64 0) (.int .i64 (i:Int)) (.int .i64 (n:Int)) rfl rfl) rfl (Told.mk' (x:=(i:Int)) (y:=(n:Int)) (by rw[HW.out,show((i:Int)+((right 1 (runL isBl (s.data.toList.drop i))).width:Int))=(n:Int) by have:=HE.out;simp only[right];omega];rfl) (by rw[HW.out];exact fun h=>absurd rfl h) (below_put6 (by repeat (first|exact HR.out.below|refine below_at ?_ (by omega) _)) (Nat.le_refl _) _ _ _ _ _ _).drew)
   ·have dlt:decide ((n:Int)<(s.size:Int))=false:=decide_eq_false (by omega)
    obtain rfl:n=s.size:=by omega
    have HE:Hid (i+runL isBl (s.data.toList.drop i)=s.size):=Lib.hid (by rw[run_end (by rw[HSD.out];omega) (fun j g1 h=>HA.out j g1 (by rw[HSD.out] at h;omega) h),HSD.out])
    go_wp2_with fail
    go_region
    go_wp2_with fail
    exact bodyPost_ret (results_drew Tryz.results134 _ (by repeat (first|exact HR.out.six|refine six_past ?_ (by omega) _)) (.int .i64 1) (.int .i64 (i:Int)) (.int .i64 (s.size:Int)) (.int .i64 0) (.int .i64 (i:Int)) (.int .i64 (s.size:Int)) rfl rfl) rfl (Told.mk' (x:=(i:Int)) (y:=(s.size:Int)) (by rw[HW.out,show((i:Int)+((right 1 (runL isBl (s.data.toList.drop i))).width:Int))=(s.size:Int) by have:=HE.out;simp only[right];omega];rfl) (by rw[HW.out];exact fun h=>absurd rfl h) (below_put6 (by repeat (first|exact HR.out.below|refine below_at ?_ (by omega) _)) (Nat.le_refl _) _ _ _ _ _ _).drew)
end Go.Proofs.YtcekbbkidipbnaaGreat.lx
