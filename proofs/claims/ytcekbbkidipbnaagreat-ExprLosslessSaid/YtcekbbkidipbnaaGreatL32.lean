/-
  Texts put together: Rbc.
-/
import Derived.Test.YtcekbbkidipbnaaGreatL29
import Derived.Test.YtcekbbkidipbnaaGreatL30
import Derived.Test.YtcekbbkidipbnaaGreatL31
set_option maxRecDepth 100000
set_option maxHeartbeats 8000000
namespace Go.Proofs.YtcekbbkidipbnaaGreat.lx
open Go.RowKit Go.Proofs.YtcekbbkidipbnaaGreat.tok
theorem at_drop (s:ByteArray) (i:Nat):dec.runeAt s i=(decL (s.data.toList.drop i)).1∧dec.wideAt s i=chrOf (s.data.toList.drop i):=by
 have e:Utf8.decode s i=decL (s.data.toList.drop i):=by
  have e:=Lib.tail_decode s i 0
  rw[Nat.add_zero] at e
  rw[← e]
  by_cases h:i≤s.size
  ·have:s.extract i s.size=B (s.data.toList.drop i):=by
    rw[b_extract,List.take_of_length_le (by rw[List.length_drop,sdata];omega)]
   rw[this,dec_b]
  ·have:s.extract i s.size=B (s.data.toList.drop i):=by
    rw[b_extract,List.drop_of_length_le (by rw[sdata];omega),List.take_nil]
   rw[this,dec_b]
 unfold dec.runeAt dec.wideAt chrOf
 rw[e]
 exact⟨rfl,rfl⟩
theorem said_at (s:ByteArray) (i:Nat):saidOf (s.data.toList.drop i)=decide (dec.faultZ (dec.runeAt s i) (dec.wideAt s i) 1≠0):=by
 rw[(at_drop s i).1,(at_drop s i).2]
 rfl
theorem fault_one {r k p:Int} (h:r≠65279):dec.faultZ r k p=dec.faultZ r k 1:=by
 unfold dec.faultZ
 rw[if_neg (c:=r=65279∧0<p) (by omega),if_neg (c:=r=65279∧0<(1:Int)) (by omega)]
theorem said_bad {s:ByteArray} {i:Nat} (h:dec.widthS s i=0):saidOf (s.data.toList.drop i)=true∧chrOf (s.data.toList.drop i)=1:=by
 obtain⟨a,b⟩:=dec.codeAt_bad h
 refine⟨?_,by rw[← (at_drop s i).2];exact b⟩
 rw[said_at]
 unfold dec.codeAt at a
 refine decide_eq_true ?_
 by_cases hr:(dec.runeAt s i:Int)=65279
 ·unfold dec.faultZ at a ⊢
  rw[hr] at a
  split at a
  ·omega
  ·split at a
   ·omega
   ·split at a <;> omega
 ·rw[← fault_one (p:=i) hr,a];decide
theorem said_nul {s:ByteArray} {i:Nat} (hw:dec.widthS s i≠0) (h:(s.get! i).toNat=0):saidOf (s.data.toList.drop i)=true:=by
 have a:=(dec.code_nul hw h).1
 rw[said_at]
 unfold dec.codeAt at a
 refine decide_eq_true ?_
 by_cases hr:(dec.runeAt s i:Int)=65279
 ·unfold dec.faultZ at a ⊢
  rw[hr] at a
  split at a
  ·omega
  ·split at a
   ·omega
   ·split at a <;> omega
 ·rw[← fault_one (p:=i) hr,a];decide
theorem said_mark {s:ByteArray} {i:Nat} (h:dec.runeAt s i=65279):saidOf (s.data.toList.drop i)=true:=by
 rw[said_at,h]
 refine decide_eq_true ?_
 unfold dec.faultZ
 rw[if_neg (by omega),if_neg (by omega),if_pos (by omega)]
 decide
theorem said_none {s:ByteArray} {i:Nat} (hw:dec.widthS s i≠0) (h0:(s.get! i).toNat≠0) (h:dec.runeAt s i≠65279):saidOf (s.data.toList.drop i)=false:=by
 have a:=dec.code_none hw h0 (.inl h)
 unfold dec.codeAt at a
 rw[said_at,← fault_one (p:=i) (by omega),a]
 decide
theorem chr_good {s:ByteArray} {i:Nat} (hw:dec.widthS s i≠0):chrOf (s.data.toList.drop i)=dec.widthS s i:=by
 rw[← (at_drop s i).2]
 exact(dec.wide_good hw).1
theorem chr_max (s:ByteArray) (i:Nat):max (1:Int) (dec.widthS s i:Int)=(chrOf (s.data.toList.drop i):Int):=by
 by_cases h:dec.widthS s i=0
 ·rw[(said_bad h).2,h];decide
 ·rw[chr_good h];omega
theorem refSaid_any (s:ByteArray) (i:Nat) (w:World) (hs:s.size≤4194304) (hlt:i<s.size) :
  Calls Tryz.prog 173 #[.string s,.int .i64 (i:Int)] w (Bools (saidOf (s.data.toList.drop i)) w):=by
 by_cases hbad:dec.widthS s i=0
 ·have HW:=Lib.hid hbad
  have HF:=Lib.hid (said_bad hbad).1
  clear hbad
  go_enter Tryz.func173,Tryz.ntmps173
  go_wp2_with (go_at_call 172;refine(dec.width_is _ (by omega) hlt HW.out rfl).mono ?_;rintro e w' ⟨rfl,rfl⟩)
  go_ret
  exact⟨by rw[HF.out];rfl,rfl⟩
 obtain⟨c,hc⟩:∃ c,s[i]=c:=⟨_,rfl⟩
 have hix:∀ u:World,(Instr.index 9 (.string s) (.int .i64 (i:Int))).run Tryz.prog u=.ok (.int .u8 (c.toNat:Int)) u:=fun u=>by rw[← hc];exact index_at s _ i rfl hlt u
 have hg0:s.get! i=c:=(dec.get_lt s i hlt).trans hc
 have hgood:=dec.wide_good hbad
 have hwl:=dec.wide_le s i hlt
 obtain⟨n,hn⟩:∃ n,dec.widthS s i=n:=⟨_,rfl⟩
 have HW:=Lib.hid hn
 have bn:((n:Int) == 0)=false:=beq_eq_false_iff_ne.2 (by omega)
 by_cases hz:(c.toNat:Int)=0
 ·have bz:((c.toNat:Int) == 0)=true:=beq_iff_eq.2 hz
  have HF:=Lib.hid (said_nul hbad (by rw[hg0];omega))
  clear hz hbad hg0 hgood hwl hn hc
  go_enter Tryz.func173,Tryz.ntmps173
  go_wp2_with (go_at_call 172;refine(dec.width_is _ (by omega) hlt HW.out rfl).mono ?_;rintro e w' ⟨rfl,rfl⟩)
  go_ret
  exact⟨by rw[HF.out];rfl,rfl⟩
 have bz:((c.toNat:Int) == 0)=false:=beq_eq_false_iff_ne.2 hz
 have hle:i+n≤s.size:=by rw[← hn,← hgood.1];exact hwl
 have hsl:=piece_mid s i (i+n) (i:Int) ((i:Int)+(n:Int)) rfl (by omega) (by omega) hle
 by_cases hm:dec.runeAt s i=65279
 ·have HF:=Lib.hid (said_mark hm)
  have hx0:=dec.mark_yes hbad hm
  rw[hn,b_extract] at hx0
  obtain⟨x,hx⟩:∃ x,B ((s.data.toList.drop i).take (i+n - i))=x:=⟨_,rfl⟩
  rw[hx] at hx0 hsl
  clear hz hbad hg0 hgood hwl hn hc hx hm
  go_enter Tryz.func173,Tryz.ntmps173
  go_wp2_with (go_at_call 172;refine(dec.width_is _ (by omega) hlt HW.out rfl).mono ?_;rintro e w' ⟨rfl,rfl⟩)
  go_ret
  exact⟨by rw[HF.out];rfl,rfl⟩
 ·have HF:=Lib.hid (said_none hbad (by rw[hg0];omega) hm)
  have hx0:=dec.mark_no hlt hbad hm
  rw[hn,b_extract] at hx0
  obtain⟨x,hx⟩:∃ x,B ((s.data.toList.drop i).take (i+n - i))=x:=⟨_,rfl⟩
  rw[hx] at hx0 hsl
  clear hz hbad hg0 hgood hwl hn hc hx hm
  go_enter Tryz.func173,Tryz.ntmps173
  go_wp2_with (go_at_call 172;refine(dec.width_is _ (by omega) hlt HW.out rfl).mono ?_;rintro e w' ⟨rfl,rfl⟩)
  go_ret
  exact⟨by rw[HF.out];rfl,rfl⟩
theorem six_more {w w1:World} {b:Nat} (h:Six w1 b) (hb:Below w.heap.size w w1):∀ o:Obj,Six (w1.alloc o) b∧Below w.heap.size w (w1.alloc o):=fun o=>
 ⟨h.below ((Below.refl w1.heap.size w1).alloc (Nat.le_refl _) o),hb.alloc hb.size o⟩
theorem refSaid_then (s:ByteArray) (i:Nat) (w:World) (hs:s.size≤4194304) (hlt:i<s.size) :
  Calls Tryz.prog 173 #[.string s,.int .i64 (i:Int)] w (fun e w'=>e=.returned (.bool (saidOf (s.data.toList.drop i)))∧Below w.heap.size w w'):=by
 refine(refSaid_any s i w hs hlt).mono ?_
 rintro e w' ⟨rfl,rfl⟩
 exact⟨rfl,Below.refl _ _⟩
theorem one_then {w1 w3:World} {x0 x1 x2:Value} {t:TypeId} (hb:Below (w1.alloc (.cells #[x0,x1,x2] t)).heap.size (w1.alloc (.cells #[x0,x1,x2] t)) w3) :
  w3.cell? ⟨w1.heap.size,0,none⟩=some x0∧w3.cell? ⟨w1.heap.size,1,none⟩=some x1∧w3.cell? ⟨w1.heap.size,2,none⟩=some x2∧w3.frozen? ⟨w1.heap.size,0,none⟩=false∧w3.frozen? ⟨w1.heap.size,1,none⟩=false∧w3.frozen? ⟨w1.heap.size,2,none⟩=false:=by
 obtain⟨hc,hf⟩:=bcell hb
 refine⟨?_,?_,?_,?_,?_,?_⟩
 all_goals first|(rw[hc _ _ (by simp)];simp)|(rw[hf _ _ (by simp)];simp)
theorem best_zero (s:List UInt8) (k:Nat):(best s k).2=0→(best s k).1=0:=by
 induction k with
 |zero=>intro _;rfl
 |succ k ih=>
  rw[best]
  split
  ·rename_i h
   intro e
   simp only at e
   omega
  ·exact ih
theorem op_zero (s:List UInt8):¬ 0<(opOf s).2→(opOf s).1=0:=by
 unfold opOf
 split
 ·intro h;exact absurd (by decide) h
 ·intro h;exact best_zero s 46 (by omega)
theorem op_pos (s:List UInt8):0<(opOf s).2→(opOf s).1≠0:=by
 intro h
 have:=(lang.op_kind s h).1
 have e:lang.op s=opOf s:=rfl
 rw[e] at this
 omega
theorem refOther_any (s:ByteArray) (i:Nat) (w:World) (hs:s.size≤4194304) (hlt:i<s.size) :
  Calls Tryz.prog 152 #[.string s,.int .i64 (i:Int)] w (Told (signL lang (s.data.toList.drop i)) i w):=by
 have hld:(s.data.toList.drop i).length=s.size - i:=by rw[List.length_drop,sdata]
 have hne:s.data.toList.drop i≠[]:=by intro h;have:=congrArg List.length h;rw[hld,List.length_nil] at this;omega
 have HO:=Lib.hid (fun u=>refOperator_any (B (s.data.toList.drop i)) u)
 rw[bdata] at HO
 have hol:=lang.op_len (s.data.toList.drop i)
 rw[hld] at hol
 have HW:Hid (signL lang (s.data.toList.drop i)=if 0<(opOf (s.data.toList.drop i)).2 then right (opOf (s.data.toList.drop i)).1 (opOf (s.data.toList.drop i)).2 else if saidOf (s.data.toList.drop i)=true then right 5 (chrOf (s.data.toList.drop i)) else wrong 5 (chrOf (s.data.toList.drop i)) 104):=Lib.hid rfl
 have hol':(opOf (s.data.toList.drop i)).2≤s.size - i:=hol
 have hz:=op_zero (s.data.toList.drop i)
 have hp:=op_pos (s.data.toList.drop i)
 obtain⟨k,n,hk⟩:∃ k n,opOf (s.data.toList.drop i)=(k,n):=⟨_,_,rfl⟩
 rw[hk] at HO HW hol' hz hp
 simp only[] at HW hol' hz hp
 have hsl:=slice_from s i (by omega)
 clear hk hol
 by_cases hn:0<n
 ·rw[if_pos hn] at HW
  have bk:((k:Int) != 0)=true:=bne_iff_ne.2 (by have:=hp hn;omega)
  clear hne hz hp
  obtain⟨x,hx⟩:∃ x,B (s.data.toList.drop i)=x:=⟨_,rfl⟩
  rw[hx] at hsl HO
  clear hx hld
  go_enter Tryz.func152,Tryz.ntmps152
  go_wp2_with (go_at_call 171;refine(HO.out _).mono ?_;rintro e w1 ⟨rfl,hb⟩;have S2:=Lib.hid ((six_new w _ _ _ _ _ _ _ _).below hb);obtain⟨⟨u0,u1,u2,u3,u4,u5,k0,k1,k2,k3,k4,k5⟩,f0,f1,f2,f3,f4,f5⟩:=S2.out;have HB2:=Lib.hid (below2_then hb);clear hb)
  exact bodyPost_ret (results_two Tryz.results152 _ S2.out (.int .i64 (k:Int)) (.int .i64 (i:Int)) (.int .i64 ((i:Int)+(n:Int))) (.int .i64 0) (.int .i64 0) (.int .i64 0) rfl rfl) rfl (Told.mk' (x:=0) (y:=0) (by rw[HW.out];rfl) (by rw[HW.out];exact fun h=>absurd rfl h) (below_put6 HB2.out (Nat.le_refl _) _ _ _ _ _ _))
 ·rw[if_neg hn] at HW
  have hk0:=hz hn
  subst hk0
  have bk:((0:Int) != 0)=false:=by decide
  have hcl:chrOf (s.data.toList.drop i)≤s.size - i:=by have:=lang.chr_len _ hne;rwa [hld] at this
  have HM:=Lib.hid (chr_max s i)
  have HS:=Lib.hid (fun u=>refSaid_then s i u hs hlt)
  obtain⟨m,hm⟩:∃ m,chrOf (s.data.toList.drop i)=m:=⟨_,rfl⟩
  obtain⟨b,hb⟩:∃ b,saidOf (s.data.toList.drop i)=b:=⟨_,rfl⟩
  obtain⟨z,hz⟩:∃ z,dec.widthS s i=z:=⟨_,rfl⟩
  rw[hm] at HW hcl HM
  rw[hb] at HW HS
  rw[hz] at HM
  have HZ:=Lib.hid hz
  have hmx:=HM.out
  obtain⟨x,hx⟩:∃ x,B (s.data.toList.drop i)=x:=⟨_,rfl⟩
  rw[hx] at hsl HO
  clear hx hld hm hb hz hne hp HM hn
  cases b
  ·simp only[Bool.false_eq_true,if_false] at HW
   go_enter Tryz.func152,Tryz.ntmps152
   go_wp2_with (first|(go_at_call 171;refine(HO.out _).mono ?_;rintro e w1 ⟨rfl,hb⟩;have S1:=Lib.hid ((six_new w _ _ _ _ _ _ _ _).below hb);have HA:=Lib.hid (six_more S1.out (below2_then hb));have hsz:=hb.size;simp at hsz;have hz:w.heap.size+1<w1.heap.size:=(by omega);have hz0:w.heap.size<w1.heap.size:=(by omega);clear hb)|(go_at_call 172;refine(dec.width_is _ (by omega) hlt HZ.out rfl).mono ?_;rintro e w' ⟨rfl,rfl⟩)|(go_at_call 173;refine(HS.out _).mono ?_;rintro e w3 ⟨rfl,hb3⟩;obtain⟨j0,j1,j2,g0,g1,g2⟩:=one_then hb3;have S3:=Lib.hid ((HA.out _).1.below hb3);have HB3:=Lib.hid ((HA.out _).2.trans (hb3.mono (HA.out _).2.size));obtain⟨⟨u0,u1,u2,u3,u4,u5,k0,k1,k2,k3,k4,k5⟩,f0,f1,f2,f3,f4,f5⟩:=S3.out;clear hb3))
   go_region
   go_wp2_with fail
   exact bodyPost_ret (results_drew Tryz.results152 _ S3.out (.int .i64 5) (.int .i64 (i:Int)) (.int .i64 ((i:Int)+(m:Int))) (.int .i64 104) (.int .i64 (i:Int)) (.int .i64 ((i:Int)+(m:Int))) rfl rfl) rfl (Told.mk' (x:=(i:Int)) (y:=(i:Int)+(m:Int)) (by rw[HW.out];rfl) (by rw[HW.out];exact fun _=>⟨by simp [wrong],by simp [wrong]⟩) (below_put6 HB3.out (Nat.le_refl _) _ _ _ _ _ _).drew)
  ·simp only[if_true] at HW
   go_enter Tryz.func152,Tryz.ntmps152
   go_wp2_with (first|(go_at_call 171;refine(HO.out _).mono ?_;rintro e w1 ⟨rfl,hb⟩;have S1:=Lib.hid ((six_new w _ _ _ _ _ _ _ _).below hb);have HA:=Lib.hid (six_more S1.out (below2_then hb));have hsz:=hb.size;simp at hsz;have hz:w.heap.size+1<w1.heap.size:=(by omega);have hz0:w.heap.size<w1.heap.size:=(by omega);clear hb)|(go_at_call 172;refine(dec.width_is _ (by omega) hlt HZ.out rfl).mono ?_;rintro e w' ⟨rfl,rfl⟩)|(go_at_call 173;refine(HS.out _).mono ?_;rintro e w3 ⟨rfl,hb3⟩;obtain⟨j0,j1,j2,g0,g1,g2⟩:=one_then hb3;have S3:=Lib.hid ((HA.out _).1.below hb3);have HB3:=Lib.hid ((HA.out _).2.trans (hb3.mono (HA.out _).2.size));obtain⟨⟨u0,u1,u2,u3,u4,u5,k0,k1,k2,k3,k4,k5⟩,f0,f1,f2,f3,f4,f5⟩:=S3.out;clear hb3))
   go_region
   go_wp2_with fail
   exact bodyPost_ret (results_drew Tryz.results152 _ (six_past S3.out (by omega) _) (.int .i64 5) (.int .i64 (i:Int)) (.int .i64 ((i:Int)+(m:Int))) (.int .i64 0) (.int .i64 (i:Int)) (.int .i64 ((i:Int)+(m:Int))) rfl rfl) rfl (Told.mk' (x:=(i:Int)) (y:=(i:Int)+(m:Int)) (by rw[HW.out];rfl) (by rw[HW.out];exact fun h=>absurd rfl h) (below_put6 (HB3.out.setCell (by show w.heap.size≤w1.heap.size;omega) _) (Nat.le_refl _) _ _ _ _ _ _).drew)
end Go.Proofs.YtcekbbkidipbnaaGreat.lx
