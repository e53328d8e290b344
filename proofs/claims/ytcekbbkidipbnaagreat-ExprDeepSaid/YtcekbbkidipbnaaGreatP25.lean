/-
  Texts put together: Rbp, Rbq, Rbr.
-/
import Derived.Test.YtcekbbkidipbnaaGreatP23
import Derived.Test.YtcekbbkidipbnaaGreatP21
import Derived.Test.YtcekbbkidipbnaaGreatP24
set_option maxRecDepth 100000
set_option maxHeartbeats 8000000
namespace Go.Proofs.YtcekbbkidipbnaaGreat.lx
open Go.RowKit Go.Proofs.YtcekbbkidipbnaaGreat.tok
theorem zsW {s:ByteArray} {i:Nat} {c:UInt8} {w:World} (hlt:i<s.size) (hc:s[i]=c) (hs:s.size≤4194304) (m:Nx) (hm:m=if (numOf ((s.data.toList.drop i).take (runL isWd (s.data.toList.drop i)))).2.2=true then right 11 (runL isWd (s.data.toList.drop i)) else wrong 11 (runL isWd (s.data.toList.drop i)) 109) (h1:i≠0∨Lib.hasPrefix s.data.toList mark=false) (h2:isBl c=false) (h3:c≠10) (h4:c≠47) (h6:isLt c=false) (h7:isDg c=true) :
  Calls Tryz.prog 134 #[.string s,.int .i64 (i:Int)] w (Told m i w):=by
 have HW:=Lib.hid hm
 have HSD:=Lib.hid (sdata s)
 have hix:∀ u:World,(Instr.index 9 (.string s) (.int .i64 (i:Int))).run Tryz.prog u=.ok (.int .u8 (c.toNat:Int)) u:=fun u=>by rw[← hc];exact zfJ s _ i rfl hlt u
 have HC:Hid (∀ h:i<s.data.toList.length,isWd s.data.toList[i]=true):=Lib.hid (fun _=>by rw[show s.data.toList[i]=s[i] from rfl,hc];unfold isWd;rw[h7,Bool.or_true])
 have H2:=Lib.hid (fun u=>zge c u)
 rw[h2] at H2
 have b10:((c.toNat:Int) == 10)=false:=zfx (d:=10) h3
 have b47:((c.toNat:Int) == 47)=false:=zfx (d:=47) h4
 have H6:=Lib.hid (fun u=>zgf c u)
 rw[h6] at H6
 have H7:=Lib.hid (fun u=>refDigit_any c u)
 rw[h7] at H7
 clear h2 h3 h4 h6 h7 hm hc
 rcases zgz h1 with h1|⟨h1,h3⟩|⟨h1,h3,h4⟩
 ·have b1:((i:Int) == 0)=false:=beq_eq_false_iff_ne.2 zdC
  clear h1
  exact zah
 ·have b1:((i:Int) == 0)=true:=beq_iff_eq.2 zdC
  have d3:decide (3≤(s.size:Int))=false:=decide_eq_false zdC
  clear h1 h3
  exact zah
 ·have b1:((i:Int) == 0)=true:=beq_iff_eq.2 zdC
  have d3:decide (3≤(s.size:Int))=true:=decide_eq_true zdC
  have hsl3:=zgp s 3 3 rfl h3
  obtain⟨x3,hx3⟩:∃ x,B (s.data.toList.take 3)=x:=⟨_,rfl⟩
  rw[hx3] at h4 hsl3
  clear h1 h3 hx3
  exact zah
open Go.RowKit Go.Proofs.YtcekbbkidipbnaaGreat.tok
theorem ztv {s:ByteArray} {i:Nat} {c:UInt8} {w:World} (hlt:i<s.size) (hc:s[i]=c) (hs:s.size≤4194304) (m:Nx) (hm:m=right 1 3) (h1:i=0) (h3:3≤s.size) (h4:((B (s.data.toList.take 3)).toList == [239,187,191])=true) :
  Calls Tryz.prog 134 #[.string s,.int .i64 (i:Int)] w (Told m i w):=by
 have HW:=Lib.hid hm
 have hix:∀ u:World,(Instr.index 9 (.string s) (.int .i64 (i:Int))).run Tryz.prog u=.ok (.int .u8 (c.toNat:Int)) u:=fun u=>by rw[← hc];exact zfJ s _ i rfl hlt u
 have b1:((i:Int) == 0)=true:=beq_iff_eq.2 zdC
 have d3:decide (3≤(s.size:Int))=true:=decide_eq_true zdC
 have hsl3:=zgp s 3 3 rfl h3
 obtain⟨x3,hx3⟩:∃ x,B (s.data.toList.take 3)=x:=⟨_,rfl⟩
 rw[hx3] at h4 hsl3
 have HE:Hid ((i:Int)=0):=Lib.hid zdC
 clear h1 h3 hx3 hc hm
 go_enter Tryz.func134,Tryz.ntmps134
 go_wp2
 have HF:=Lib.hid (zgR w (.int .i64 1) (.int .i64 (i:Int)) (.int .i64 3) (.int .i64 0) (.int .i64 (i:Int)) (.int .i64 3))
 unfold boxes4 at HF
 generalize (((w.alloc (.cells #[.int .i64 0,.int .i64 0,.int .i64 0] 55)).alloc (.cells #[.int .i64 0,.int .i64 0,.int .i64 0] 37)).alloc (.cells #[.int .i64 1,.int .i64 (i:Int),.int .i64 3] 55)).alloc (.cells #[.int .i64 0,.int .i64 (i:Int),.int .i64 3] 37)=W at *
 obtain⟨⟨⟨u0,u1,u2,u3,u4,u5,k0,k1,k2,k3,k4,k5⟩,f0,f1,f2,f3,f4,f5⟩,x0,x1,x2,y0,y1,y2,⟨⟨g0,g1,g2⟩,g3,g4,g5⟩,_⟩:=HF.out
 go_region
 go_wp2_with fail
 exact bodyPost_ret (zfT Tryz.results134 _ zeq (.int .i64 1) (.int .i64 (i:Int)) (.int .i64 (3:Int)) (.int .i64 0) (.int .i64 (i:Int)) (.int .i64 (3:Int)) rfl rfl) rfl (Told.mk' (x:=(i:Int)) (y:=(3:Int)) (by rw[HW.out];simp only[right];rw[HE.out];rfl) zdZ (zfU zer (Nat.le_refl _) _ _ _ _ _ _).drew)
open Go.RowKit Go.Proofs.YtcekbbkidipbnaaGreat.tok
theorem zvS {c a b:UInt8} {r:List UInt8}:Lib.hasPrefix (c::r) [a,b]=true↔c=a∧r.head? = some b:=by
 cases r with
 |nil=>simp [Lib.hasPrefix,List.isPrefixOf]
 |cons d r=>
  simp only[Lib.hasPrefix,List.isPrefixOf,Bool.and_true,Bool.and_eq_true,beq_iff_eq,List.head?_cons,Option.some.injEq]
  exact⟨fun⟨x,y⟩=>⟨x.symm,y.symm⟩,fun⟨x,y⟩=>⟨x.symm,y.symm⟩⟩
theorem ztG {s:ByteArray} {i:Nat} {b:UInt8}:(s.data.toList.drop (i+1)).head? = some b↔∃ h:i+1<s.size,s[i+1]=b:=by
 by_cases h:i+1<s.size
 ·have:s.data.toList.drop (i+1)=s[i+1]::s.data.toList.drop (i+2):=List.drop_eq_getElem_cons zdQ
  rw[this]
  simp [h]
 ·rw[List.drop_of_length_le zdW]
  simp [h]
theorem zqp (s:ByteArray) (i:Nat) (w:World) (hs:s.size≤4194304) (hlt:i<s.size) :
  Calls Tryz.prog 134 #[.string s,.int .i64 (i:Int)] w (Told (nxAt lang s.data.toList i) i w):=by
 have hd:s.data.toList.drop i=s[i]::s.data.toList.drop (i+1):=List.drop_eq_getElem_cons (by rw[sdata];exact hlt)
 have hn:nxAt lang s.data.toList i=nxOf lang (cls (i == 0) (s.data.toList.drop i)) (s.data.toList.drop i):=rfl
 have hh2:∀ b,(s.data.toList.drop (i+1)).head? = some b↔∃ h:i+1<s.size,s[i+1]=b:=fun b=>ztG
 obtain⟨c,hc⟩:∃ c,s[i]=c:=⟨_,rfl⟩
 rw[hc] at hd
 have hcls:cls (i == 0) (s.data.toList.drop i)=cls (i == 0) (c::s.data.toList.drop (i+1)):=by rw[hd]
 rw[cls,← hd] at hcls
 rw[hn]
 by_cases h1:((i == 0) && Lib.hasPrefix (s.data.toList.drop i) mark)=true
 ·rw[if_pos h1] at hcls
  rw[Bool.and_eq_true,beq_iff_eq] at h1
  obtain⟨h0,hp⟩:=h1
  rw[h0,List.drop_zero] at hp
  have hl:=(List.isPrefixOf_iff_prefix.1 hp).length_le
  rw[sdata] at hl
  have e:=zlL s.data.toList mark 0
  rw[List.drop_zero] at e
  exact ztv hlt hc hs _ zes h0 hl (by rw[blist];exact e.trans hp)
 rw[if_neg h1] at hcls
 have g1:i≠0∨Lib.hasPrefix s.data.toList mark=false:=by
  by_cases ha:i=0
  ·refine .inr ?_
   rw[ha,List.drop_zero] at h1
   simpa using h1
  ·exact .inl ha
 by_cases h2:isBl c=true
 ·rw[if_pos h2] at hcls
  exact zsD hlt hc hs _ zes g1 h2
 rw[if_neg h2] at hcls
 have h2:isBl c=false:=by simpa using h2
 by_cases h3:c=10
 ·rw[if_pos h3] at hcls
  exact ztM hlt hc hs _ zes g1 h2 h3
 rw[if_neg h3] at hcls
 have hpa:∀ a b,Lib.hasPrefix (s.data.toList.drop i) [a,b]=true↔c=a∧∃ h:i+1<s.size,s[i+1]=b:=fun a b=>by rw[hd,zvS,hh2]
 by_cases h4:Lib.hasPrefix (s.data.toList.drop i) [47,47]=true
 ·rw[if_pos h4] at hcls
  obtain⟨e,h,e2⟩:=(hpa 47 47).1 h4
  exact ztZ hlt hc hs _ zes g1 h2 h3 e h e2
 rw[if_neg h4] at hcls
 by_cases h5:Lib.hasPrefix (s.data.toList.drop i) [47,42]=true
 ·rw[if_pos h5] at hcls
  obtain⟨e,h,e2⟩:=(hpa 47 42).1 h5
  exact zsm hlt hc hs _ zes g1 h2 h3 e h e2
 rw[if_neg h5] at hcls
 by_cases h6:isLt c=true
 ·rw[if_pos h6] at hcls
  exact ztF hlt hc hs _ zes g1 h2 h3 (by rintro rfl;exact absurd h6 zdD) h6
 rw[if_neg h6] at hcls
 have h6:isLt c=false:=by simpa using h6
 by_cases h7:isDg c=true
 ·rw[if_pos h7] at hcls
  exact zsW hlt hc hs _ zes g1 h2 h3 (by rintro rfl;exact absurd h7 zdD) h6 h7
 rw[if_neg h7] at hcls
 have h7:isDg c=false:=by simpa using h7
 by_cases h8:c=34
 ·rw[if_pos h8] at hcls
  exact zts hlt hc hs _ zes g1 h2 h3 (by rw[h8];decide) h6 h7 h8
 rw[if_neg h8] at hcls
 by_cases h9:c=39
 ·rw[if_pos h9] at hcls
  exact zsz hlt hc hs _ zes g1 h2 h3 (by rw[h9];decide) h6 h7 h8 h9
 rw[if_neg h9] at hcls
 by_cases h10:c=96
 ·rw[if_pos h10] at hcls
  exact zri hlt hc hs _ zes g1 h2 h3 (by rw[h10];decide) h6 h7 h8 h9 h10
 rw[if_neg h10] at hcls
 by_cases h47:c=47
 ·by_cases hl:i+1<s.size
  ·exact zpP hlt hc hs _ zes g1 h2 h3 h47 hl _ rfl (fun e=>h4 ((hpa 47 47).2 ⟨h47,hl,e⟩)) (fun e=>h5 ((hpa 47 42).2 ⟨h47,hl,e⟩)) h6 h7 h8 h9 h10
  ·exact zpO hlt hc hs _ zes g1 h2 h3 h47 zdC h6 h7 h8 h9 h10
 ·exact zqB hlt hc hs _ zes g1 h2 h3 h47 h6 h7 h8 h9 h10
end Go.Proofs.YtcekbbkidipbnaaGreat.lx
