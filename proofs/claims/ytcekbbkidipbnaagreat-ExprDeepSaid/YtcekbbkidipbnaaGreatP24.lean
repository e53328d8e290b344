/-
  Texts put together: Rbo.
-/
import Derived.Test.YtcekbbkidipbnaaGreatP23
set_option maxRecDepth 100000
set_option maxHeartbeats 8000000
namespace Go.Proofs.YtcekbbkidipbnaaGreat.lx
open Go.RowKit Go.Proofs.YtcekbbkidipbnaaGreat.tok
theorem ztF {s:ByteArray} {i:Nat} {c:UInt8} {w:World} (hlt:i<s.size) (hc:s[i]=c) (hs:s.size≤4194304) (m:Nx) (hm:m=right (if kwOf ((s.data.toList.drop i).take (runL isWd (s.data.toList.drop i)))=0 then 10 else kwOf ((s.data.toList.drop i).take (runL isWd (s.data.toList.drop i)))) (runL isWd (s.data.toList.drop i))) (h1:i≠0∨Lib.hasPrefix s.data.toList mark=false) (h2:isBl c=false) (h3:c≠10) (h4:c≠47) (h6:isLt c=true) :
  Calls Tryz.prog 134 #[.string s,.int .i64 (i:Int)] w (Told m i w):=by
 have HW:=Lib.hid hm
 have HSD:=Lib.hid (sdata s)
 have hix:∀ u:World,(Instr.index 9 (.string s) (.int .i64 (i:Int))).run Tryz.prog u=.ok (.int .u8 (c.toNat:Int)) u:=fun u=>by rw[← hc];exact zfJ s _ i rfl hlt u
 have HC:Hid (∀ h:i<s.data.toList.length,isWd s.data.toList[i]=true):=Lib.hid (fun _=>by rw[show s.data.toList[i]=s[i] from rfl,hc];unfold isWd;rw[h6,Bool.true_or])
 have H2:=Lib.hid (fun u=>zge c u)
 rw[h2] at H2
 have b10:((c.toNat:Int) == 10)=false:=zfx (d:=10) h3
 have b47:((c.toNat:Int) == 47)=false:=zfx (d:=47) h4
 have H6:=Lib.hid (fun u=>zgf c u)
 rw[h6] at H6
 clear h2 h3 h4 h6 hm hc
 rcases zgz h1 with h1|⟨h1,h3⟩|⟨h1,h3,h4⟩
 ·have b1:((i:Int) == 0)=false:=beq_eq_false_iff_ne.2 zdC
  clear h1
  exact zai
 ·have b1:((i:Int) == 0)=true:=beq_iff_eq.2 zdC
  have d3:decide (3≤(s.size:Int))=false:=decide_eq_false zdC
  clear h1 h3
  exact zai
 ·have b1:((i:Int) == 0)=true:=beq_iff_eq.2 zdC
  have d3:decide (3≤(s.size:Int))=true:=decide_eq_true zdC
  have hsl3:=zgp s 3 3 rfl h3
  obtain⟨x3,hx3⟩:∃ x,B (s.data.toList.take 3)=x:=⟨_,rfl⟩
  rw[hx3] at h4 hsl3
  clear h1 h3 hx3
  exact zai
end Go.Proofs.YtcekbbkidipbnaaGreat.lx
