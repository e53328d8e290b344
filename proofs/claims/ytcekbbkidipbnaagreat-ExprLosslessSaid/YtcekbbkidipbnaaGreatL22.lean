/-
  Texts put together: La.
-/
import Derived.Test.YtcekbbkidipbnaaGreatL20
import Derived.Test.YtcekbbkidipbnaaGreatL21
set_option maxRecDepth 100000
set_option maxHeartbeats 8000000
namespace Go.Proofs.YtcekbbkidipbnaaGreat.lx
open Go.RowKit Go.Proofs.YtcekbbkidipbnaaGreat.tok
theorem u8_is (c d:UInt8):c=d↔(c.toNat:Int)=(d.toNat:Int):=⟨fun h=>by rw[h],fun h=>UInt8.toNat_inj.1 (by omega)⟩
theorem isBl_z (c:UInt8):isBl c=true↔((c.toNat:Int)=32∨(c.toNat:Int)=9∨(c.toNat:Int)=13):=by
 unfold isBl
 simp only[Bool.or_eq_true,beq_iff_eq,u8_is,or_assoc]
 exact Iff.rfl
theorem isLt_z (c:UInt8):isLt c=true↔(65≤(c.toNat:Int)∧(c.toNat:Int)≤90∨97≤(c.toNat:Int)∧(c.toNat:Int)≤122∨(c.toNat:Int)=95):=by
 unfold isLt
 simp only[Bool.or_eq_true,Bool.and_eq_true,decide_eq_true_iff,beq_iff_eq,u8_is,or_assoc,UInt8.le_iff_toNat_le]
 have e1:(65:UInt8).toNat=65:=rfl
 have e2:(90:UInt8).toNat=90:=rfl
 have e3:(97:UInt8).toNat=97:=rfl
 have e4:(122:UInt8).toNat=122:=rfl
 have e5:(95:UInt8).toNat=95:=rfl
 rw[e1,e2,e3,e4,e5]
 omega
theorem isDg_z (c:UInt8):isDg c=true↔(48≤(c.toNat:Int)∧(c.toNat:Int)≤57):=by
 unfold isDg
 simp only[Bool.and_eq_true,decide_eq_true_iff,UInt8.le_iff_toNat_le]
 have e1:(48:UInt8).toNat=48:=rfl
 have e2:(57:UInt8).toNat=57:=rfl
 rw[e1,e2]
 omega
theorem bool_of {b:Bool} {p:Prop} (h:b=true↔p):(p→Ending.returned (.bool true)=Ending.returned (.bool b))∧(¬ p→Ending.returned (.bool false)=Ending.returned (.bool b)):=
 ⟨fun hp=>by rw[h.2 hp],fun hp=>by cases b with|false=>rfl|true=>exact absurd (h.1 rfl) hp⟩
def Says (b:Bool) (w:World) (e:Ending) (w':World):Prop:=e=.returned (.bool b)∧w=w'
theorem runL_more {p:UInt8→Bool} {l:List UInt8}:∀ {k:Nat},k<l.length→(∀ j,j<k→∀ h:j<l.length,p l[j]=true)→(h:k<l.length)→p l[k]=false→runL p l=k:=by
 induction l with
 |nil=>intro k h;simp at h
 |cons c l ih=>
  intro k hk hb h hf
  cases k with
  |zero=>simp only[List.getElem_cons_zero] at hf;simp [runL,hf]
  |succ k=>
   have h0:p c=true:=hb 0 (by omega) (by simp)
   have:=ih (k:=k) (by simpa using hk) (fun j hj h'=>by have:=hb (j+1) (by omega) (by simpa using h');simpa using this) (by simpa using h) (by simpa using hf)
   simp [runL,h0,this]
theorem runL_all {p:UInt8→Bool} {l:List UInt8} (h:∀ j,∀ h:j<l.length,p l[j]=true):runL p l=l.length:=by
 induction l with
 |nil=>rfl
 |cons c l ih=>
  have h0:p c=true:=h 0 (by simp)
  have:=ih (fun j hj=>by have:=h (j+1) (by simpa using hj);simpa using this)
  simp [runL,h0,this]
end Go.Proofs.YtcekbbkidipbnaaGreat.lx
