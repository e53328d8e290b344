/-
  Texts put together: Rbh, Rbi, Rbj, Rbk, Rbl, Rbm, Rbn.
-/
import Derived.Test.YtcekbbkidipbnaaGreatP21
import Derived.Test.YtcekbbkidipbnaaGreatP22
set_option maxRecDepth 100000
set_option maxHeartbeats 8000000
namespace Go.Proofs.YtcekbbkidipbnaaGreat.lx
open Go.RowKit Go.Proofs.YtcekbbkidipbnaaGreat.tok
theorem znA (kind code:Int) (n:Nat) (clo l:List UInt8) (i:Nat) (h0:0<clo.length) :
  closedL kind code n clo (l.drop i)=if findL l (i+n) clo=l.length then wrong kind (l.length - i) code else right kind (findL l (i+n) clo+clo.length - i):=by
 unfold closedL findL
 rw[List.drop_drop,List.length_drop]
 by_cases h:Lib.index (l.drop (i+n)) clo<0
 ·rw[if_pos h,if_pos h,if_pos rfl]
 ·have hr:=Lib.index_room (l.drop (i+n)) clo zdC
  rw[List.length_drop] at hr
  rw[if_neg h,if_neg h,if_neg zdC]
  congr 1
  omega
theorem znB (l q:List UInt8) (i:Nat) (hi:i≤l.length) (h:findL l i q≠l.length):findL l i q+q.length≤l.length:=by
 unfold findL at h ⊢
 by_cases g:Lib.index (l.drop i) q<0
 ·rw[if_pos g] at h;exact absurd rfl h
 ·rw[if_neg g]
  have hr:=Lib.index_room (l.drop i) q zdC
  rw[List.length_drop] at hr
  omega
theorem zkd (s q:ByteArray) (i t:Nat) (z:Int) (w:World) (hs:s.size≤4194304) (hq:q.size≤4) (hi:i≤s.size) (hz:z=(i:Int)) (ht:findL s.data.toList i q.data.toList=t) :
  Calls Tryz.prog 135 #[.string s,.int .i64 z,.string q] w fun e w'=>e=.returned (.int .i64 (t:Int))∧w=w':=by
 subst hz ht
 exact zpS s q i w hs hq hi
theorem zkJ (s q:ByteArray) (i t:Nat) (z:Int) (w:World) (hs:s.size≤4194304) (hq:q.size≤4) (hi:i≤s.size) (hz:z=(i:Int)) (ht:findL s.data.toList i q.data.toList=t) :
  Calls Tryz.prog 135 #[.string s,.int .i64 z,.string q] w fun e w'=>e=.returned (.int .i64 (t:Int))∧Below w.heap.size w w':=by
 refine(zkd s q i t z w hs hq hi hz ht).mono ?_
 exact zdh
open Go.RowKit Go.Proofs.YtcekbbkidipbnaaGreat.tok
theorem ztZ {s:ByteArray} {i:Nat} {c:UInt8} {w:World} (hlt:i<s.size) (hc:s[i]=c) (hs:s.size≤4194304) (m:Nx) (hm:m=right 3 (runL noFeed (s.data.toList.drop i))) (h1:i≠0∨Lib.hasPrefix s.data.toList mark=false) (h2:isBl c=false) (h3:c≠10) (h4:c=47) (h5:i+1<s.size) (h6:s[i+1]=47) :
  Calls Tryz.prog 134 #[.string s,.int .i64 (i:Int)] w (Told m i w):=by
 have HW:=Lib.hid hm
 have HSD:=Lib.hid (sdata s)
 have hix:∀ u:World,(Instr.index 9 (.string s) (.int .i64 (i:Int))).run Tryz.prog u=.ok (.int .u8 (c.toNat:Int)) u:=fun u=>by rw[← hc];exact zfJ s _ i rfl hlt u
 have H2:=Lib.hid (fun u=>zge c u)
 rw[h2] at H2
 have b10:((c.toNat:Int) == 10)=false:=zfx (d:=10) h3
 have b47:((c.toNat:Int) == 47)=true:=zfM (d:=47) h4
 have dl1:decide ((i:Int)+1<(s.size:Int))=true:=decide_eq_true zdC
 obtain⟨d,hd⟩:∃ d,s[i+1]'h5=d:=⟨_,rfl⟩
 have hix1:∀ u:World,(Instr.index 9 (.string s) (.int .i64 ((i:Int)+1))).run Tryz.prog u=.ok (.int .u8 (d.toNat:Int)) u:=fun u=>by rw[← hd];exact zfJ s _ (i+1) zdC h5 u
 rw[hd] at h6
 have bd:((d.toNat:Int) == 47)=true:=zfM (d:=47) h6
 obtain⟨t,ht⟩:∃ t,findL s.data.toList i [10]=t:=⟨_,rfl⟩
 have HFI:=Lib.hid (fun u=>zkd s ⟨#[10]⟩ i t (i:Int) u hs zdD zdC rfl ht)
 have HE:Hid (i+runL noFeed (s.data.toList.drop i)=t):=Lib.hid (by rw[← ht,zsv _ _ zep])
 have htl:t≤s.size:=by have:=(zmY s.data.toList [10] i zep).2;rw[ht,HSD.out] at this;exact this
 clear h2 h3 hm hc h4 h6 hd ht
 rcases zgz h1 with h1|⟨h1,h3⟩|⟨h1,h3,h4⟩
 ·have b1:((i:Int) == 0)=false:=beq_eq_false_iff_ne.2 zdC
  clear h1
  exact zaQ
 ·have b1:((i:Int) == 0)=true:=beq_iff_eq.2 zdC
  have d3:decide (3≤(s.size:Int))=false:=decide_eq_false zdC
  clear h1 h3
  exact zaQ
 ·have b1:((i:Int) == 0)=true:=beq_iff_eq.2 zdC
  have d3:decide (3≤(s.size:Int))=true:=decide_eq_true zdC
  have hsl3:=zgp s 3 3 rfl h3
  obtain⟨x3,hx3⟩:∃ x,B (s.data.toList.take 3)=x:=⟨_,rfl⟩
  rw[hx3] at h4 hsl3
  clear h1 h3 hx3
  exact zaQ
open Go.RowKit Go.Proofs.YtcekbbkidipbnaaGreat.tok
theorem zsm {s:ByteArray} {i:Nat} {c:UInt8} {w:World} (hlt:i<s.size) (hc:s[i]=c) (hs:s.size≤4194304) (m:Nx) (hm:m=closedL 4 105 2 [42,47] (s.data.toList.drop i)) (h1:i≠0∨Lib.hasPrefix s.data.toList mark=false) (h2:isBl c=false) (h3:c≠10) (h4:c=47) (h5:i+1<s.size) (h6:s[i+1]=42) :
  Calls Tryz.prog 134 #[.string s,.int .i64 (i:Int)] w (Told m i w):=by
 have HW:=Lib.hid hm
 have HSD:=Lib.hid (sdata s)
 have hix:∀ u:World,(Instr.index 9 (.string s) (.int .i64 (i:Int))).run Tryz.prog u=.ok (.int .u8 (c.toNat:Int)) u:=fun u=>by rw[← hc];exact zfJ s _ i rfl hlt u
 have H2:=Lib.hid (fun u=>zge c u)
 rw[h2] at H2
 have b10:((c.toNat:Int) == 10)=false:=zfx (d:=10) h3
 rw[znA 4 105 2 [42,47] s.data.toList i zdD] at HW
 obtain⟨t,ht⟩:∃ t,findL s.data.toList (i+2) [42,47]=t:=⟨_,rfl⟩
 have HFI:=Lib.hid (fun u=>zkJ s ⟨#[42,47]⟩ (i+2) t ((i:Int)+2) u hs zdD zdC zdC ht)
 have hle:=zmY s.data.toList [42,47] (i+2) zep
 have hro:=znB s.data.toList [42,47] (i+2) zep
 rw[ht,HSD.out] at HW hle hro
 have b47:((c.toNat:Int) == 47)=true:=zfM (d:=47) h4
 have dl1:decide ((i:Int)+1<(s.size:Int))=true:=decide_eq_true zdC
 obtain⟨d,hd⟩:∃ d,s[i+1]'h5=d:=⟨_,rfl⟩
 have hix1:∀ u:World,(Instr.index 9 (.string s) (.int .i64 ((i:Int)+1))).run Tryz.prog u=.ok (.int .u8 (d.toNat:Int)) u:=fun u=>by rw[← hd];exact zfJ s _ (i+1) zdC h5 u
 rw[hd] at h6
 have bd:((d.toNat:Int) == 47)=false:=zfx (d:=47) (by rw[h6];decide)
 have bd2:((d.toNat:Int) == 42)=true:=zfM (d:=42) h6
 clear h2 h3 hm hc h4 h6 hd ht
 by_cases he:t=s.size
 ·have be:((t:Int) == (s.size:Int))=true:=beq_iff_eq.2 zdC
  rw[if_pos he] at HW
  have HE:Hid (i+(s.size - i)=t):=Lib.hid zdC
  clear hro he
  rcases zgz h1 with h1|⟨h1,h3⟩|⟨h1,h3,h4⟩
  ·have b1:((i:Int) == 0)=false:=beq_eq_false_iff_ne.2 zdC
   clear h1
   exact zaL
  ·have b1:((i:Int) == 0)=true:=beq_iff_eq.2 zdC
   have d3:decide (3≤(s.size:Int))=false:=decide_eq_false zdC
   clear h1 h3
   exact zaL
  ·have b1:((i:Int) == 0)=true:=beq_iff_eq.2 zdC
   have d3:decide (3≤(s.size:Int))=true:=decide_eq_true zdC
   have hsl3:=zgp s 3 3 rfl h3
   obtain⟨x3,hx3⟩:∃ x,B (s.data.toList.take 3)=x:=⟨_,rfl⟩
   rw[hx3] at h4 hsl3
   clear h1 h3 hx3
   exact zaL
 ·have be:((t:Int) == (s.size:Int))=false:=beq_eq_false_iff_ne.2 zdC
  rw[if_neg he] at HW
  have hro':=hro he
  have hro2:t+2≤s.size:=hro'
  have HE:Hid (i+(t+2 - i)=t+2):=Lib.hid zdC
  have HW2:Hid (m=right 4 (t+2 - i)):=HW
  clear hro hro' he HW
  have HW:=HW2
  clear HW2
  rcases zgz h1 with h1|⟨h1,h3⟩|⟨h1,h3,h4⟩
  ·have b1:((i:Int) == 0)=false:=beq_eq_false_iff_ne.2 zdC
   clear h1
   exact zaM
  ·have b1:((i:Int) == 0)=true:=beq_iff_eq.2 zdC
   have d3:decide (3≤(s.size:Int))=false:=decide_eq_false zdC
   clear h1 h3
   exact zaM
  ·have b1:((i:Int) == 0)=true:=beq_iff_eq.2 zdC
   have d3:decide (3≤(s.size:Int))=true:=decide_eq_true zdC
   have hsl3:=zgp s 3 3 rfl h3
   obtain⟨x3,hx3⟩:∃ x,B (s.data.toList.take 3)=x:=⟨_,rfl⟩
   rw[hx3] at h4 hsl3
   clear h1 h3 hx3
   exact zaM
open Go.RowKit Go.Proofs.YtcekbbkidipbnaaGreat.tok
theorem zri {s:ByteArray} {i:Nat} {c:UInt8} {w:World} (hlt:i<s.size) (hc:s[i]=c) (hs:s.size≤4194304) (m:Nx) (hm:m=closedL 14 106 1 [96] (s.data.toList.drop i)) (h1:i≠0∨Lib.hasPrefix s.data.toList mark=false) (h2:isBl c=false) (h3:c≠10) (h4:c≠47) (h6:isLt c=false) (h7:isDg c=false) (h8:c≠34) (h9:c≠39) (h10:c=96) :
  Calls Tryz.prog 134 #[.string s,.int .i64 (i:Int)] w (Told m i w):=by
 have HW:=Lib.hid hm
 have HSD:=Lib.hid (sdata s)
 have hix:∀ u:World,(Instr.index 9 (.string s) (.int .i64 (i:Int))).run Tryz.prog u=.ok (.int .u8 (c.toNat:Int)) u:=fun u=>by rw[← hc];exact zfJ s _ i rfl hlt u
 have H2:=Lib.hid (fun u=>zge c u)
 rw[h2] at H2
 have b10:((c.toNat:Int) == 10)=false:=zfx (d:=10) h3
 rw[znA 14 106 1 [96] s.data.toList i zdD] at HW
 obtain⟨t,ht⟩:∃ t,findL s.data.toList (i+1) [96]=t:=⟨_,rfl⟩
 have HFI:=Lib.hid (fun u=>zkJ s ⟨#[96]⟩ (i+1) t ((i:Int)+1) u hs zdD zdC zdC ht)
 have hle:=zmY s.data.toList [96] (i+1) zep
 have hro:=znB s.data.toList [96] (i+1) zep
 rw[ht,HSD.out] at HW hle hro
 have b47:((c.toNat:Int) == 47)=false:=zfx (d:=47) h4
 have b34:((c.toNat:Int) == 34)=false:=zfx (d:=34) h8
 have b39:((c.toNat:Int) == 39)=false:=zfx (d:=39) h9
 have b96:((c.toNat:Int) == 96)=true:=zfM (d:=96) h10
 have H6:=Lib.hid (fun u=>zgf c u)
 rw[h6] at H6
 have H7:=Lib.hid (fun u=>refDigit_any c u)
 rw[h7] at H7
 clear h2 h3 hm hc h4 h6 h7 h8 h9 h10 ht
 by_cases he:t=s.size
 ·have be:((t:Int) == (s.size:Int))=true:=beq_iff_eq.2 zdC
  rw[if_pos he] at HW
  have HE:Hid (i+(s.size - i)=t):=Lib.hid zdC
  clear hro he
  rcases zgz h1 with h1|⟨h1,h3⟩|⟨h1,h3,h4⟩
  ·have b1:((i:Int) == 0)=false:=beq_eq_false_iff_ne.2 zdC
   clear h1
   exact zaI
  ·have b1:((i:Int) == 0)=true:=beq_iff_eq.2 zdC
   have d3:decide (3≤(s.size:Int))=false:=decide_eq_false zdC
   clear h1 h3
   exact zaI
  ·have b1:((i:Int) == 0)=true:=beq_iff_eq.2 zdC
   have d3:decide (3≤(s.size:Int))=true:=decide_eq_true zdC
   have hsl3:=zgp s 3 3 rfl h3
   obtain⟨x3,hx3⟩:∃ x,B (s.data.toList.take 3)=x:=⟨_,rfl⟩
   rw[hx3] at h4 hsl3
   clear h1 h3 hx3
   exact zaI
 ·have be:((t:Int) == (s.size:Int))=false:=beq_eq_false_iff_ne.2 zdC
  rw[if_neg he] at HW
  have hro':=hro he
  have hro2:t+1≤s.size:=hro'
  have HE:Hid (i+(t+1 - i)=t+1):=Lib.hid zdC
  have HW2:Hid (m=right 14 (t+1 - i)):=HW
  clear hro hro' he HW
  have HW:=HW2
  clear HW2
  rcases zgz h1 with h1|⟨h1,h3⟩|⟨h1,h3,h4⟩
  ·have b1:((i:Int) == 0)=false:=beq_eq_false_iff_ne.2 zdC
   clear h1
   exact zaJ
  ·have b1:((i:Int) == 0)=true:=beq_iff_eq.2 zdC
   have d3:decide (3≤(s.size:Int))=false:=decide_eq_false zdC
   clear h1 h3
   exact zaJ
  ·have b1:((i:Int) == 0)=true:=beq_iff_eq.2 zdC
   have d3:decide (3≤(s.size:Int))=true:=decide_eq_true zdC
   have hsl3:=zgp s 3 3 rfl h3
   obtain⟨x3,hx3⟩:∃ x,B (s.data.toList.take 3)=x:=⟨_,rfl⟩
   rw[hx3] at h4 hsl3
   clear h1 h3 hx3
   exact zaJ
open Go.RowKit Go.Proofs.YtcekbbkidipbnaaGreat.tok
theorem zts {s:ByteArray} {i:Nat} {c:UInt8} {w:World} (hlt:i<s.size) (hc:s[i]=c) (hs:s.size≤4194304) (m:Nx) (hm:m=quotedL lang.str 13 106 34 (s.data.toList.drop i)) (h1:i≠0∨Lib.hasPrefix s.data.toList mark=false) (h2:isBl c=false) (h3:c≠10) (h4:c≠47) (h6:isLt c=false) (h7:isDg c=false) (h8:c=34) :
  Calls Tryz.prog 134 #[.string s,.int .i64 (i:Int)] w (Told m i w):=by
 have HW:=Lib.hid hm
 have HSD:=Lib.hid (sdata s)
 have hix:∀ u:World,(Instr.index 9 (.string s) (.int .i64 (i:Int))).run Tryz.prog u=.ok (.int .u8 (c.toNat:Int)) u:=fun u=>by rw[← hc];exact zfJ s _ i rfl hlt u
 have H2:=Lib.hid (fun u=>zge c u)
 rw[h2] at H2
 have b10:((c.toNat:Int) == 10)=false:=zfx (d:=10) h3
 have b47:((c.toNat:Int) == 47)=false:=zfx (d:=47) h4
 have b34:((c.toNat:Int) == 34)=true:=zfM (d:=34) h8
 have H6:=Lib.hid (fun u=>zgf c u)
 rw[h6] at H6
 have H7:=Lib.hid (fun u=>refDigit_any c u)
 rw[h7] at H7
 have HT:=Lib.hid (fun u=>zqv s i u hs hlt (hc.trans h8))
 clear h2 h3 hm hc h4 h6 h7 h8
 rcases zgz h1 with h1|⟨h1,h3⟩|⟨h1,h3,h4⟩
 ·have b1:((i:Int) == 0)=false:=beq_eq_false_iff_ne.2 zdC
  clear h1
  exact zag
 ·have b1:((i:Int) == 0)=true:=beq_iff_eq.2 zdC
  have d3:decide (3≤(s.size:Int))=false:=decide_eq_false zdC
  clear h1 h3
  exact zag
 ·have b1:((i:Int) == 0)=true:=beq_iff_eq.2 zdC
  have d3:decide (3≤(s.size:Int))=true:=decide_eq_true zdC
  have hsl3:=zgp s 3 3 rfl h3
  obtain⟨x3,hx3⟩:∃ x,B (s.data.toList.take 3)=x:=⟨_,rfl⟩
  rw[hx3] at h4 hsl3
  clear h1 h3 hx3
  exact zag
open Go.RowKit Go.Proofs.YtcekbbkidipbnaaGreat.tok
theorem zsz {s:ByteArray} {i:Nat} {c:UInt8} {w:World} (hlt:i<s.size) (hc:s[i]=c) (hs:s.size≤4194304) (m:Nx) (hm:m=quotedL lang.rune 12 107 39 (s.data.toList.drop i)) (h1:i≠0∨Lib.hasPrefix s.data.toList mark=false) (h2:isBl c=false) (h3:c≠10) (h4:c≠47) (h6:isLt c=false) (h7:isDg c=false) (h8:c≠34) (h9:c=39) :
  Calls Tryz.prog 134 #[.string s,.int .i64 (i:Int)] w (Told m i w):=by
 have HW:=Lib.hid hm
 have HSD:=Lib.hid (sdata s)
 have hix:∀ u:World,(Instr.index 9 (.string s) (.int .i64 (i:Int))).run Tryz.prog u=.ok (.int .u8 (c.toNat:Int)) u:=fun u=>by rw[← hc];exact zfJ s _ i rfl hlt u
 have H2:=Lib.hid (fun u=>zge c u)
 rw[h2] at H2
 have b10:((c.toNat:Int) == 10)=false:=zfx (d:=10) h3
 have b47:((c.toNat:Int) == 47)=false:=zfx (d:=47) h4
 have b34:((c.toNat:Int) == 34)=false:=zfx (d:=34) h8
 have b39:((c.toNat:Int) == 39)=true:=zfM (d:=39) h9
 have H6:=Lib.hid (fun u=>zgf c u)
 rw[h6] at H6
 have H7:=Lib.hid (fun u=>refDigit_any c u)
 rw[h7] at H7
 have HT:=Lib.hid (fun u=>zou s i u hs hlt (hc.trans h9))
 clear h2 h3 hm hc h4 h6 h7 h8 h9
 rcases zgz h1 with h1|⟨h1,h3⟩|⟨h1,h3,h4⟩
 ·have b1:((i:Int) == 0)=false:=beq_eq_false_iff_ne.2 zdC
  clear h1
  exact zag
 ·have b1:((i:Int) == 0)=true:=beq_iff_eq.2 zdC
  have d3:decide (3≤(s.size:Int))=false:=decide_eq_false zdC
  clear h1 h3
  exact zag
 ·have b1:((i:Int) == 0)=true:=beq_iff_eq.2 zdC
  have d3:decide (3≤(s.size:Int))=true:=decide_eq_true zdC
  have hsl3:=zgp s 3 3 rfl h3
  obtain⟨x3,hx3⟩:∃ x,B (s.data.toList.take 3)=x:=⟨_,rfl⟩
  rw[hx3] at h4 hsl3
  clear h1 h3 hx3
  exact zag
open Go.RowKit Go.Proofs.YtcekbbkidipbnaaGreat.tok
theorem zqB {s:ByteArray} {i:Nat} {c:UInt8} {w:World} (hlt:i<s.size) (hc:s[i]=c) (hs:s.size≤4194304) (m:Nx) (hm:m=signL lang (s.data.toList.drop i)) (h1:i≠0∨Lib.hasPrefix s.data.toList mark=false) (h2:isBl c=false) (h3:c≠10) (h4:c≠47) (h6:isLt c=false) (h7:isDg c=false) (h8:c≠34) (h9:c≠39) (h10:c≠96) :
  Calls Tryz.prog 134 #[.string s,.int .i64 (i:Int)] w (Told m i w):=by
 have HW:=Lib.hid hm
 have HSD:=Lib.hid (sdata s)
 have hix:∀ u:World,(Instr.index 9 (.string s) (.int .i64 (i:Int))).run Tryz.prog u=.ok (.int .u8 (c.toNat:Int)) u:=fun u=>by rw[← hc];exact zfJ s _ i rfl hlt u
 have H2:=Lib.hid (fun u=>zge c u)
 rw[h2] at H2
 have b10:((c.toNat:Int) == 10)=false:=zfx (d:=10) h3
 have b47:((c.toNat:Int) == 47)=false:=zfx (d:=47) h4
 have b34:((c.toNat:Int) == 34)=false:=zfx (d:=34) h8
 have b39:((c.toNat:Int) == 39)=false:=zfx (d:=39) h9
 have b96:((c.toNat:Int) == 96)=false:=zfx (d:=96) h10
 have H6:=Lib.hid (fun u=>zgf c u)
 rw[h6] at H6
 have H7:=Lib.hid (fun u=>refDigit_any c u)
 rw[h7] at H7
 have HT:=Lib.hid (fun u=>zjj s i u hs hlt)
 clear h2 h3 hm hc h4 h6 h7 h8 h9 h10
 rcases zgz h1 with h1|⟨h1,h3⟩|⟨h1,h3,h4⟩
 ·have b1:((i:Int) == 0)=false:=beq_eq_false_iff_ne.2 zdC
  clear h1
  exact zag
 ·have b1:((i:Int) == 0)=true:=beq_iff_eq.2 zdC
  have d3:decide (3≤(s.size:Int))=false:=decide_eq_false zdC
  clear h1 h3
  exact zag
 ·have b1:((i:Int) == 0)=true:=beq_iff_eq.2 zdC
  have d3:decide (3≤(s.size:Int))=true:=decide_eq_true zdC
  have hsl3:=zgp s 3 3 rfl h3
  obtain⟨x3,hx3⟩:∃ x,B (s.data.toList.take 3)=x:=⟨_,rfl⟩
  rw[hx3] at h4 hsl3
  clear h1 h3 hx3
  exact zag
theorem zpO {s:ByteArray} {i:Nat} {c:UInt8} {w:World} (hlt:i<s.size) (hc:s[i]=c) (hs:s.size≤4194304) (m:Nx) (hm:m=signL lang (s.data.toList.drop i)) (h1:i≠0∨Lib.hasPrefix s.data.toList mark=false) (h2:isBl c=false) (h3:c≠10) (h4:c=47) (h5:s.size≤i+1) (h6:isLt c=false) (h7:isDg c=false) (h8:c≠34) (h9:c≠39) (h10:c≠96) :
  Calls Tryz.prog 134 #[.string s,.int .i64 (i:Int)] w (Told m i w):=by
 have HW:=Lib.hid hm
 have HSD:=Lib.hid (sdata s)
 have hix:∀ u:World,(Instr.index 9 (.string s) (.int .i64 (i:Int))).run Tryz.prog u=.ok (.int .u8 (c.toNat:Int)) u:=fun u=>by rw[← hc];exact zfJ s _ i rfl hlt u
 have H2:=Lib.hid (fun u=>zge c u)
 rw[h2] at H2
 have b10:((c.toNat:Int) == 10)=false:=zfx (d:=10) h3
 have b47:((c.toNat:Int) == 47)=true:=zfM (d:=47) h4
 have dl1:decide ((i:Int)+1<(s.size:Int))=false:=decide_eq_false zdC
 have b34:((c.toNat:Int) == 34)=false:=zfx (d:=34) h8
 have b39:((c.toNat:Int) == 39)=false:=zfx (d:=39) h9
 have b96:((c.toNat:Int) == 96)=false:=zfx (d:=96) h10
 have H6:=Lib.hid (fun u=>zgf c u)
 rw[h6] at H6
 have H7:=Lib.hid (fun u=>refDigit_any c u)
 rw[h7] at H7
 have HT:=Lib.hid (fun u=>zjj s i u hs hlt)
 clear h2 h3 hm hc h4 h5 h6 h7 h8 h9 h10
 rcases zgz h1 with h1|⟨h1,h3⟩|⟨h1,h3,h4⟩
 ·have b1:((i:Int) == 0)=false:=beq_eq_false_iff_ne.2 zdC
  clear h1
  exact zag
 ·have b1:((i:Int) == 0)=true:=beq_iff_eq.2 zdC
  have d3:decide (3≤(s.size:Int))=false:=decide_eq_false zdC
  clear h1 h3
  exact zag
 ·have b1:((i:Int) == 0)=true:=beq_iff_eq.2 zdC
  have d3:decide (3≤(s.size:Int))=true:=decide_eq_true zdC
  have hsl3:=zgp s 3 3 rfl h3
  obtain⟨x3,hx3⟩:∃ x,B (s.data.toList.take 3)=x:=⟨_,rfl⟩
  rw[hx3] at h4 hsl3
  clear h1 h3 hx3
  exact zag
theorem zpP {s:ByteArray} {i:Nat} {c:UInt8} {w:World} (hlt:i<s.size) (hc:s[i]=c) (hs:s.size≤4194304) (m:Nx) (hm:m=signL lang (s.data.toList.drop i)) (h1:i≠0∨Lib.hasPrefix s.data.toList mark=false) (h2:isBl c=false) (h3:c≠10) (h4:c=47) (h5:i+1<s.size) (d:UInt8) (hd:s[i+1]=d) (h47:d≠47) (h42:d≠42) (h6:isLt c=false) (h7:isDg c=false) (h8:c≠34) (h9:c≠39) (h10:c≠96) :
  Calls Tryz.prog 134 #[.string s,.int .i64 (i:Int)] w (Told m i w):=by
 have HW:=Lib.hid hm
 have HSD:=Lib.hid (sdata s)
 have hix:∀ u:World,(Instr.index 9 (.string s) (.int .i64 (i:Int))).run Tryz.prog u=.ok (.int .u8 (c.toNat:Int)) u:=fun u=>by rw[← hc];exact zfJ s _ i rfl hlt u
 have H2:=Lib.hid (fun u=>zge c u)
 rw[h2] at H2
 have b10:((c.toNat:Int) == 10)=false:=zfx (d:=10) h3
 have b47:((c.toNat:Int) == 47)=true:=zfM (d:=47) h4
 have dl1:decide ((i:Int)+1<(s.size:Int))=true:=decide_eq_true zdC
 have hix1:∀ u:World,(Instr.index 9 (.string s) (.int .i64 ((i:Int)+1))).run Tryz.prog u=.ok (.int .u8 (d.toNat:Int)) u:=fun u=>by rw[← hd];exact zfJ s _ (i+1) zdC h5 u
 have bd:((d.toNat:Int) == 47)=false:=zfx (d:=47) h47
 have bd2:((d.toNat:Int) == 42)=false:=zfx (d:=42) h42
 have b34:((c.toNat:Int) == 34)=false:=zfx (d:=34) h8
 have b39:((c.toNat:Int) == 39)=false:=zfx (d:=39) h9
 have b96:((c.toNat:Int) == 96)=false:=zfx (d:=96) h10
 have H6:=Lib.hid (fun u=>zgf c u)
 rw[h6] at H6
 have H7:=Lib.hid (fun u=>refDigit_any c u)
 rw[h7] at H7
 have HT:=Lib.hid (fun u=>zjj s i u hs hlt)
 clear h2 h3 hm hc h4 hd h47 h42 h6 h7 h8 h9 h10
 rcases zgz h1 with h1|⟨h1,h3⟩|⟨h1,h3,h4⟩
 ·have b1:((i:Int) == 0)=false:=beq_eq_false_iff_ne.2 zdC
  clear h1
  exact zag
 ·have b1:((i:Int) == 0)=true:=beq_iff_eq.2 zdC
  have d3:decide (3≤(s.size:Int))=false:=decide_eq_false zdC
  clear h1 h3
  exact zag
 ·have b1:((i:Int) == 0)=true:=beq_iff_eq.2 zdC
  have d3:decide (3≤(s.size:Int))=true:=decide_eq_true zdC
  have hsl3:=zgp s 3 3 rfl h3
  obtain⟨x3,hx3⟩:∃ x,B (s.data.toList.take 3)=x:=⟨_,rfl⟩
  rw[hx3] at h4 hsl3
  clear h1 h3 hx3
  exact zag
end Go.Proofs.YtcekbbkidipbnaaGreat.lx
