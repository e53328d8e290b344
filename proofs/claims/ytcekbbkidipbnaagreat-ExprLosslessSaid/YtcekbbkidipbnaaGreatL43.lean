/-
  Texts put together: Rbs, Rbt, Rbu.
-/
import Derived.Test.YtcekbbkidipbnaaGreatL39
import Derived.Test.YtcekbbkidipbnaaGreatL42
import Derived.Deep.RegionHeld3
import Derived.Test.YtcekbbkidipbnaaGreatL41
import Derived.Deep.AppendLies
import Derived.Deep.RegionLaw
set_option maxRecDepth 100000
set_option maxHeartbeats 8000000
namespace Go.Proofs.YtcekbbkidipbnaaGreat.lx
open Go.RowKit Go.Proofs.YtcekbbkidipbnaaGreat.tok
theorem nx_kinds (z:Bool) (c:UInt8) (b:List UInt8):triv (nx lang z (c::b)).kind=true∨10≤(nx lang z (c::b)).kind:=by
 have hw:∀ (f:List UInt8→Int × Nat) (k code:Int) (q:UInt8) (r:List UInt8),(quotedL f k code q r).kind=k:=fun f k code q r=>(quoted_width f k code q r).2
 have hcl:∀ (k code:Int) (n:Nat) (clo r:List UInt8),(closedL k code n clo r).kind=k:=by
  intro k code n clo r
  unfold closedL
  split <;> rfl
 unfold nx
 have hk:=cls_le z c b
 generalize cls z (c::b)=k at *
 match k,hk with
 |0,h=>omega
 |1,_=>left;rfl
 |2,_=>left;rfl
 |3,_=>left;rfl
 |4,_=>left;rfl
 |5,_=>left;show triv (closedL 4 105 2 [42,47] (c::b)).kind=true;rw[hcl];rfl
 |6,_=>
  right
  show 10≤(if lang.kw _=0 then(10:Int) else lang.kw _)
  split
  ·omega
  ·rename_i h
   have:=(lang.kw_kind _).resolve_left h
   omega
 |7,_=>
  right
  show 10≤(numL lang (c::b)).kind
  unfold numL
  split
  ·show(10:Int)≤11;decide
  ·show(10:Int)≤11;decide
 |8,_=>right;show 10≤(quotedL lang.str 13 106 34 (c::b)).kind;rw[hw];decide
 |9,_=>right;show 10≤(quotedL lang.rune 12 107 39 (c::b)).kind;rw[hw];decide
 |10,_=>right;show 10≤(closedL 14 106 1 [96] (c::b)).kind;rw[hcl];decide
 |11,_=>
  show triv (signL lang (c::b)).kind=true∨10≤(signL lang (c::b)).kind
  unfold signL
  split
  ·rename_i h
   right
   have:=(lang.op_kind _ h).1
   show 10≤((lang.op _).1:Int)
   omega
  ·split
   ·left;rfl
   ·left;rfl
 |n+12,h=>omega
def Kinds (T:List Tr):Prop:=∀ t∈T,triv t.k=true∨10≤t.k
theorem bare_kinded (l:List UInt8):∀ p,Kinds (bare lang l p):=by
 refine along (L:=lang) (fun p h=>by rw[bare_end h];intro t ht;simp at ht) (fun p h ih=>?_)
 rw[bare_step h]
 intro t ht
 rcases List.mem_cons.1 ht with rfl|ht
 ·show triv (nxAt lang l p).kind=true∨10≤(nxAt lang l p).kind
  unfold nxAt
  rw[List.drop_eq_getElem_cons h]
  exact nx_kinds _ _ _
 ·exact ih t ht
theorem feed_find (l:List UInt8) (t:Tr) (h1:t.i≤t.j) (h2:t.j≤l.length):(findL (l.take t.j) t.i [10]<t.j)↔hasFeed l t=true:=by
 unfold hasFeed piece findL Lib.contains
 rw[List.drop_take,List.length_take,Nat.min_eq_left h2]
 have hr:=Lib.index_room ((l.drop t.i).take (t.j - t.i)) [10]
 rw[List.length_take,List.length_drop] at hr
 by_cases h:Lib.index ((l.drop t.i).take (t.j - t.i)) [10]<0
 ·rw[if_pos h]
  simp
  omega
 ·rw[if_neg h]
  have:=hr (by omega)
  simp at this ⊢
  omega
theorem refEnds_any (s:ByteArray) (v:Value) (T:List Tr) (i:Nat) (w:World) (hs:s.size≤4194304) (hr:Row w v T) (hw:Within s.size T) (hk:Kinds T) (hn:T.length≤16777216) (hi:i<T.length) :
  Calls Tryz.prog 112 #[.string s,v,.int .i64 (i:Int)] w (fun e w'=>e=.returned (.bool (lineEnd s.data.toList false (T.drop (i+1))))∧Below w.heap.size w w'):=by
 obtain⟨g,off,o,cap,hc,rfl,ho,hcell⟩:=hr
 have HC:=Lib.hid hcell
 have HW:=Lib.hid hw
 have HK:=Lib.hid hk
 have HSD:=Lib.hid (sdata s)
 have ho:=ho (by rintro rfl;simp at hi)
 subst ho
 clear hcell hw hk
 obtain⟨len,hlen⟩:∃ len,T.length=len:=⟨_,rfl⟩
 rw[hlen] at hc hn hi
 have HN:=Lib.hid hlen
 clear hlen
 rw[HN.out]
 go_enter Tryz.func112,Tryz.ntmps112
 go_wp2
 go_loopw [7] (fun p wr=>∃ n:Nat,n≤len∧p=.int .i64 n∧lineEnd s.data.toList false (T.drop n)=lineEnd s.data.toList false (T.drop (i+1))∧Below w.heap.size w wr) (fun p _=>len - (intOf p).toNat)
 case atStart=>exact⟨i+1,by omega,by go_num,rfl,Below.refl _ _⟩
 case round=>
  obtain⟨n,hnl,rfl,hle,hb⟩:=hrel
  have HB:=Lib.hid hb
  have HL:=Lib.hid hle
  have hsz:=hb.size
  clear hb hle
  by_cases hlt:n<len
  ·have hltT:n<T.length:=by rw[HN.out];exact hlt
   have hd:decide ((n:Int)<(len:Int))=true:=decide_eq_true (by omega)
   have hD:=List.drop_eq_getElem_cons hltT
   obtain⟨c0,c1,c2⟩:=HC.out.below HB.out n hltT
   obtain⟨w1,w2⟩:=HW.out T[n] (List.getElem_mem hltT)
   have hkd:=HK.out T[n] (List.getElem_mem hltT)
   have hff:=feed_find s.data.toList T[n] w1 (by rw[HSD.out];exact w2)
   generalize T[n]=t at *
   obtain⟨k,a,b⟩:=t
   simp only[] at c0 c1 c2 w1 w2 hkd hff
   rw[hD,lineEnd] at HL
   simp only[] at HL
   have HKD:=Lib.hid hkd
   have HFF:=Lib.hid hff
   clear hltT hD hkd hff
   by_cases h2:k=2
   ·subst h2
    rw[if_neg (by decide),if_pos rfl] at HL
    go_wp2_with fail
    have x0:(wr.alloc (.cells #[.int .i64 2,.int .i64 (a:Int),.int .i64 (b:Int)] 55)).cell? ⟨wr.heap.size,0,none⟩=some (.int .i64 2):=by simp
    have x1:(wr.alloc (.cells #[.int .i64 2,.int .i64 (a:Int),.int .i64 (b:Int)] 55)).cell? ⟨wr.heap.size,1,none⟩=some (.int .i64 (a:Int)):=by simp
    have x2:(wr.alloc (.cells #[.int .i64 2,.int .i64 (a:Int),.int .i64 (b:Int)] 55)).cell? ⟨wr.heap.size,2,none⟩=some (.int .i64 (b:Int)):=by simp
    have HB2:=Lib.hid (HB.out.alloc hsz (.cells #[.int .i64 2,.int .i64 (a:Int),.int .i64 (b:Int)] 55))
    generalize wr.alloc (.cells #[.int .i64 2,.int .i64 (a:Int),.int .i64 (b:Int)] 55)=W at *
    go_region
    all_goals go_wp2_with fail
    go_ret
    exact⟨(by rw[← HL.out];first|done|rfl),by first|exact HB2.out.drew|exact HB2.out⟩
   ·have b2:(k == 2)=false:=beq_eq_false_iff_ne.2 h2
    by_cases h4:k=4
    ·subst h4
     have hsl:=slice_to s b (b:Int) rfl w2
     have HFI:=Lib.hid (fun u=>refFind_is (B (s.data.toList.take b)) ⟨#[10]⟩ a (findL (s.data.toList.take b) a [10]) (a:Int) u (by rw[bsize,List.length_take,HSD.out];omega) (by decide) (by rw[bsize,List.length_take,HSD.out];omega) rfl (by rw[bdata]))
     obtain⟨x,hx⟩:∃ x,B (s.data.toList.take b)=x:=⟨_,rfl⟩
     obtain⟨f,hf⟩:∃ f,findL (s.data.toList.take b) a [10]=f:=⟨_,rfl⟩
     have HFF2:=HFF
     simp only[hf] at HFF2
     rw[hx] at hsl HFI
     rw[hf] at HFI
     clear hx hf HFF
     go_wp2_with fail
     have x0:(wr.alloc (.cells #[.int .i64 4,.int .i64 (a:Int),.int .i64 (b:Int)] 55)).cell? ⟨wr.heap.size,0,none⟩=some (.int .i64 4):=by simp
     have x1:(wr.alloc (.cells #[.int .i64 4,.int .i64 (a:Int),.int .i64 (b:Int)] 55)).cell? ⟨wr.heap.size,1,none⟩=some (.int .i64 (a:Int)):=by simp
     have x2:(wr.alloc (.cells #[.int .i64 4,.int .i64 (a:Int),.int .i64 (b:Int)] 55)).cell? ⟨wr.heap.size,2,none⟩=some (.int .i64 (b:Int)):=by simp
     have HB2:=Lib.hid (HB.out.alloc hsz (.cells #[.int .i64 4,.int .i64 (a:Int),.int .i64 (b:Int)] 55))
     generalize wr.alloc (.cells #[.int .i64 4,.int .i64 (a:Int),.int .i64 (b:Int)] 55)=W at *
     by_cases hfb:f<b
     ·have hdf:decide ((f:Int)<(b:Int))=true:=decide_eq_true (by omega)
      have hfd:hasFeed s.data.toList ⟨4,a,b⟩=true:=HFF2.out.1 hfb
      rw[if_neg (by decide),if_neg (by decide),if_pos (by rw[hfd];rfl)] at HL
      clear hfd
      go_region_held3 (fun W'=>W'.cell? ⟨wr.heap.size,0,none⟩=some (.int .i64 4)∧W'.cell? ⟨wr.heap.size,1,none⟩=some (.int .i64 (a:Int))∧W'.cell? ⟨wr.heap.size,2,none⟩=some (.int .i64 (b:Int)))
       (first|exact⟨x0,x1,x2⟩|go_keep) (first|(go_at_call 135;refine(HFI.out _).mono ?_;rintro e w7 ⟨rfl,rfl⟩))
      all_goals go_wp2_with fail
      go_ret
      exact⟨(by rw[← HL.out];first|done|rfl),by first|exact HB2.out.drew|exact HB2.out⟩
     ·have hdf:decide ((f:Int)<(b:Int))=false:=decide_eq_false (by omega)
      have hfd:hasFeed s.data.toList ⟨4,a,b⟩=false:=by
       cases hq:hasFeed s.data.toList ⟨4,a,b⟩ with
       |false=>rfl
       |true=>exact absurd (HFF2.out.2 hq) hfb
      rw[if_neg (by decide),if_neg (by decide),if_neg (by rw[hfd];decide)] at HL
      clear hfd
      go_region_held3 (fun W'=>W'.cell? ⟨wr.heap.size,0,none⟩=some (.int .i64 4)∧W'.cell? ⟨wr.heap.size,1,none⟩=some (.int .i64 (a:Int))∧W'.cell? ⟨wr.heap.size,2,none⟩=some (.int .i64 (b:Int)))
       (first|exact⟨x0,x1,x2⟩|go_keep) (first|(go_at_call 135;refine(HFI.out _).mono ?_;rintro e w7 ⟨rfl,rfl⟩))
      all_goals go_wp2_with fail
      go_roundw
      case rel=>exact⟨n+1,by omega,by go_num,HL.out,by first|exact HB2.out.drew|exact HB2.out⟩
      case measure=>simp [intOf];omega
    ·have b4:(k == 4)=false:=beq_eq_false_iff_ne.2 h4
     go_wp2_with fail
     have x0:(wr.alloc (.cells #[.int .i64 k,.int .i64 (a:Int),.int .i64 (b:Int)] 55)).cell? ⟨wr.heap.size,0,none⟩=some (.int .i64 k):=by simp
     have x1:(wr.alloc (.cells #[.int .i64 k,.int .i64 (a:Int),.int .i64 (b:Int)] 55)).cell? ⟨wr.heap.size,1,none⟩=some (.int .i64 (a:Int)):=by simp
     have x2:(wr.alloc (.cells #[.int .i64 k,.int .i64 (a:Int),.int .i64 (b:Int)] 55)).cell? ⟨wr.heap.size,2,none⟩=some (.int .i64 (b:Int)):=by simp
     have HB2:=Lib.hid (HB.out.alloc hsz (.cells #[.int .i64 k,.int .i64 (a:Int),.int .i64 (b:Int)] 55))
     generalize wr.alloc (.cells #[.int .i64 k,.int .i64 (a:Int),.int .i64 (b:Int)] 55)=W at *
     rcases HKD.out with h1|h1
     ·have hge:decide (10≤k)=false:=decide_eq_false (by unfold triv at h1;have:=of_decide_eq_true h1;omega)
      rw[if_neg (by rw[h1];decide),if_neg h2,if_neg (by simp [h4])] at HL
      go_region
      all_goals go_wp2_with fail
      go_roundw
      case rel=>exact⟨n+1,by omega,by go_num,HL.out,by first|exact HB2.out.drew|exact HB2.out⟩
      case measure=>simp [intOf];omega
     ·have hge:decide (10≤k)=true:=decide_eq_true h1
      rw[if_pos (by unfold triv;exact decide_eq_false (by omega))] at HL
      go_region
      all_goals go_wp2_with fail
      go_ret
      exact⟨(by rw[← HL.out];first|done|rfl),by first|exact HB2.out.drew|exact HB2.out⟩
  ·have hd:decide ((n:Int)<(len:Int))=false:=decide_eq_false (by omega)
   have hD:T.drop n=[]:=List.drop_of_length_le (by rw[HN.out];omega)
   rw[hD] at HL
   go_wp2_with fail
   go_ret
   exact⟨by rw[← HL.out];rfl,HB.out⟩
open Go.RowKit Go.Proofs.YtcekbbkidipbnaaGreat.tok
theorem made_two (w:World) (t e:TypeId):((w.alloc (.cells #[] t)).alloc (.cells #[] e)).ownsRow w.heap.size e 3 (.slice (some ⟨w.heap.size+1,0,none⟩) 0 0) 0 []:=by
 have h:((w.alloc (.cells #[] t)).alloc (.cells #[] e)).ownsRow w.heap.size e 3 (.slice (some ⟨(w.alloc (.cells #[] t)).heap.size,0,none⟩) 0 0) 0 []:=World.ownsRow_made (w.alloc (.cells #[] t)) #[] 0 (by simp) (by decide) rfl
 rw[World.size_alloc] at h
 exact h
theorem refBare_any (s:ByteArray) (w:World) (hs:s.size≤4194304) :
  Calls Tryz.prog 110 #[.string s] w (ScanPost (bare lang s.data.toList 0) (dgs lang s.data.toList 0) w):=by
 obtain⟨i0,hi,hz0,hz1,hz2⟩:=info_parts infoT
 obtain⟨j0,hj,hy0,hy1,hy2⟩:=info_parts infoG
 have hsd:=sdata s
 have HD:=Lib.hid hsd
 clear hsd
 go_enter Tryz.func110,Tryz.ntmps110
 go_wp2
 go_loopw [4,5,6] (fun v1 v2 a wr=>∃ (p:Nat) (T D:List Tr),a=.int .i64 p∧Far lang s.data.toList p T D∧OwnT wr w.heap.size v1 T∧OwnG wr w.heap.size v2 D∧Below w.heap.size w wr) (fun _ _ a _=>s.size - (intOf a).toNat)
 case atStart=>exact⟨0,[],[],rfl,Far.zero _,(World.ownsRow_made w #[] 0 (Nat.le_refl _) (by decide) rfl).alloc _,made_two w _ _,below2 w _ _⟩
 case round=>
  obtain⟨p,T,D,rfl,hF,hT,hG,hb⟩:=hrel
  have hfew:=hF.few
  have hfew':=hF.few'
  have hple:p≤s.size:=by have:=hF.le;rwa [HD.out] at this
  have HF:=Lib.hid hF
  have HT:=Lib.hid hT
  have HG:=Lib.hid hG
  have HB:=Lib.hid hb
  have hsz:=hb.size
  clear hF hT hG hb
  by_cases hlt:p<s.size
  ·have hd:decide ((p:Int)<(s.size:Int))=true:=decide_eq_true (by omega)
   have HX:=Lib.hid (refNext_any s p wr hs hlt)
   have hltL:p<s.data.toList.length:=by rw[HD.out];exact hlt
   have HS:=Lib.hid (HF.out.step hltL)
   have hwp:=at_pos (L:=lang) hltL
   have hwl:=at_le (L:=lang) hltL
   rw[HD.out] at hwl
   have HK:Hid (tkAt lang s.data.toList p=⟨(nxAt lang s.data.toList p).kind,p,p+(nxAt lang s.data.toList p).width⟩):=Lib.hid rfl
   have HQ:Hid (dgAt lang s.data.toList p=if (nxAt lang s.data.toList p).code=0 then[] else[⟨(nxAt lang s.data.toList p).code,p+(nxAt lang s.data.toList p).off,p+(nxAt lang s.data.toList p).off+(nxAt lang s.data.toList p).dw⟩]):=Lib.hid rfl
   generalize nxAt lang s.data.toList p=N at *
   rw[HK.out,HQ.out] at HS
   clear HQ HK hltL
   obtain⟨nk,nw,nc,no,nd⟩:=N
   simp only[] at HS hwp hwl
   by_cases hc0:nc=0
   ·rw[if_pos hc0,List.append_nil] at HS
    have hcz:(nc != 0)=false:=by rw[hc0];rfl
    clear hc0
    go_wp2_with (first|(go_at_call 134;refine HX.out.mono ?_;rintro e w1 ⟨x,y,rfl,hxy,hb1⟩;have HB1:=Lib.hid hb1;have hs1:=hb1.size;have HT1:=Lib.hid (dec.own_below HT.out hb1);clear hb1 hxy)|(at_builtin;refine wpList_append_own _ rfl _ _ 22 rfl w.heap.size 55 i0 (.agg #[.int .i64 0,.int .i64 0,.int .i64 0]) 3 24 Tryz.underlying22 hi hz0 hz1 hz2 rfl (by decide) _ _ _ rfl (((World.ownsRow.alloc HT1.out _).alloc _).alloc _) ⟨w1.heap.size+1+1,0,none⟩ 1 1 [.int .i64 nk,.int .i64 (p:Int),.int .i64 ((p:Int)+(nw:Int))] rfl rfl ?c1 ?c2 ?c3 ?c4 ?c5 ?_))
    case c1=>first|exact three_at2 w1 _ _ _ _ _ _|(refine⟨?_,?_,?_⟩ <;> simp)
    case c2=>first|exact⟨rfl,rfl,rfl⟩|(intro u hu;simp only[List.mem_cons,List.not_mem_nil,or_false] at hu;rcases hu with rfl|rfl|rfl <;> rfl)
    case c3=>unfold maxLen;omega
    case c4=>omega
    case c5=>first|omega|(simp;omega)
    intro v2 w2 hown2 hg _
    have H2:=Lib.hid (step_two (t:=⟨nk,p,p+nw⟩) HB.out HB1.out hsz HT.out hown2 hg)
    have HG2:=Lib.hid (kept3 (dec.own_below HG.out HB1.out) HT1.out (by decide) hg)
    have HGL:=Lib.hid (World.ownsRow.lt HG.out)
    obtain⟨_,a0,a1,a2,b0,b1,b2,hs2⟩:=H2.out
    clear hown2 hg HT1 HG
    clear a0 a1 b1 b2 HGL
    go_wp2_with fail
    go_roundw
    case rel=>exact⟨p+nw,_,_,by go_num,HS.out,H2.out.1.1,HG2.out,H2.out.1.2⟩
    case measure=>simp [intOf];omega
   ·rw[if_neg hc0] at HS
    have hcz:(nc != 0)=true:=bne_iff_ne.2 hc0
    have HNE:=Lib.hid hc0
    clear hc0
    go_wp2_with (first|(go_at_call 134;refine HX.out.mono ?_;rintro e w1 ⟨x,y,rfl,hxy,hb1⟩;obtain⟨rfl,rfl⟩:=hxy HNE.out;have HB1:=Lib.hid hb1;have hs1:=hb1.size;have HT1:=Lib.hid (dec.own_below HT.out hb1);clear hb1 hxy)|(at_builtin;refine wpList_append_own _ rfl _ _ 22 rfl w.heap.size 55 i0 (.agg #[.int .i64 0,.int .i64 0,.int .i64 0]) 3 24 Tryz.underlying22 hi hz0 hz1 hz2 rfl (by decide) _ _ _ rfl (((World.ownsRow.alloc HT1.out _).alloc _).alloc _) ⟨w1.heap.size+1+1,0,none⟩ 1 1 [.int .i64 nk,.int .i64 (p:Int),.int .i64 ((p:Int)+(nw:Int))] rfl rfl ?d1 ?d2 ?d3 ?d4 ?d5 ?_))
    case d1=>first|exact three_at2 w1 _ _ _ _ _ _|(refine⟨?_,?_,?_⟩ <;> simp)
    case d2=>first|exact⟨rfl,rfl,rfl⟩|(intro u hu;simp only[List.mem_cons,List.not_mem_nil,or_false] at hu;rcases hu with rfl|rfl|rfl <;> rfl)
    case d3=>unfold maxLen;omega
    case d4=>omega
    case d5=>first|omega|(simp;omega)
    intro v2 w2 hown2 hg _
    have H2:=Lib.hid (step_two (t:=⟨nk,p,p+nw⟩) HB.out HB1.out hsz HT.out hown2 hg)
    have HG2:=Lib.hid (kept3 (dec.own_below HG.out HB1.out) HT1.out (by decide) hg)
    have HGL:=Lib.hid (World.ownsRow.lt HG.out)
    obtain⟨_,a0,a1,a2,b0,b1,b2,hs2⟩:=H2.out
    clear hown2 hg HT1 HG
    clear a0 a1
    go_wp2_with (at_builtin;refine wpList_append_own _ rfl _ _ 78 rfl w.heap.size 37 j0 (.agg #[.int .i64 0,.int .i64 0,.int .i64 0]) 3 24 Tryz.underlying78 hj hy0 hy1 hy2 rfl (by decide) _ _ _ rfl (World.ownsRow.alloc HG2.out _) ⟨w2.heap.size,0,none⟩ 1 1 [.int .i64 nc,.int .i64 ((p:Int)+(no:Int)),.int .i64 ((p:Int)+(no:Int)+(nd:Int))] rfl rfl ?e1 ?e2 ?e3 ?e4 ?e5 ?_)
    try(case e1=>exact three_at w2 _ _ _ 37)
    case e2=>first|exact⟨rfl,rfl,rfl⟩|(intro u hu;simp only[List.mem_cons,List.not_mem_nil,or_false] at hu;rcases hu with rfl|rfl|rfl <;> rfl)
    case e3=>unfold maxLen;omega
    case e4=>omega
    case e5=>first|omega|(simp;omega)
    intro v3 w3 hown3 hg3 _
    have H3:=Lib.hid (step_own1 (t:=⟨nc,p+no,p+no+nd⟩) H2.out.1.2 (by omega) HG2.out hown3 hg3)
    have HT3:=Lib.hid (kept1 H2.out.1.1 HG2.out (by decide) hg3)
    have a3:w3.cell? ⟨w1.heap.size,2,none⟩=some (.int .i64 ((p:Int)+(nw:Int))):=hg3.cell ((World.cell?_alloc_lt _ _ _ (show w1.heap.size<w2.heap.size by omega)).trans a2) (fun h=>by have:w1.heap.size<wr.heap.size:=(HGL.out _ h.symm).2;omega)
    clear hown3 hg3 a2
    go_wp2_with fail
    go_roundw
    case rel=>exact⟨p+nw,_,_,by go_num,HS.out,HT3.out,H3.out.1,H3.out.2⟩
    case measure=>simp [intOf];omega
  ·have hd:decide ((p:Int)<(s.size:Int))=false:=decide_eq_false (by omega)
   obtain⟨e1,e2⟩:=HF.out.done (by rw[HD.out];omega)
   go_wp2_with fail
   go_ret2
   exact⟨_,_,rfl,by rw[← e1];exact HT.out,by rw[← e2];exact HG.out,HB.out⟩
open Go.RowKit Go.Proofs.YtcekbbkidipbnaaGreat.tok
theorem refEndsOf_any (k:Int) (w:World):Calls Tryz.prog 111 #[.int .i64 k] w (Says (ends k) w):=tok.refEnds_any k w
theorem refScan_any (s:ByteArray) (w:World) (hs:s.size≤4194304) :
  Calls Tryz.prog 70 #[.string s] w (ScanPost (scan lang s.data.toList) (dgs lang s.data.toList 0) w):=by
 obtain⟨i0,hi,hz0,hz1,hz2⟩:=info_parts infoT
 have HD:=Lib.hid (sdata s)
 have HBA:=Lib.hid (fun u=>refBare_any s u hs)
 have hln:=bare_few (L:=lang) s.data.toList 0
 have HWI:=Lib.hid (bare_in s.data.toList)
 have HKI:=Lib.hid (bare_kinded s.data.toList 0)
 have HSC:Hid (scan lang s.data.toList=autos s.data.toList false (bare lang s.data.toList 0)):=Lib.hid rfl
 rw[HD.out] at hln HWI
 rw[HSC.out]
 generalize bare lang s.data.toList 0=T at *
 generalize dgs lang s.data.toList 0=D at *
 clear HSC HD
 go_enter Tryz.func70,Tryz.ntmps70
 go_wp2_with (go_at_call 110;refine(HBA.out _).mono ?_;rintro e w1 ⟨v1,v2,rfl,hT,hG,hb1⟩;have HT:=Lib.hid hT;have HG:=Lib.hid hG;have HB1:=Lib.hid hb1;clear hT hG hb1)
 have hz1':=HB1.out.size
 have hrow:=row_of_own HT.out
 have HR:=Lib.hid hrow
 obtain⟨g,off,o,cap,hc,hv1,ho,hcell⟩:=hrow.rowB
 subst hv1
 have HC:Hid (∀ w2,Below w1.heap.size w1 w2→∀ j (h:j<T.length),w2.cell? ⟨g,off+j*3,none⟩=some (.int .i64 T[j].k)∧w2.cell? ⟨g,off+j*3+1,none⟩=some (.int .i64 (T[j].i:Int))∧w2.cell? ⟨g,off+j*3+2,none⟩=some (.int .i64 (T[j].j:Int))):=Lib.hid (fun w2 h1 j hj=>by
  have hne:T≠[]:=by rintro rfl;simp at hj
  have hg:=(ho hne).2
  obtain⟨a,b,c⟩:=hcell j hj
  exact⟨(h1.cell (p:=⟨g,off+j*3,none⟩) hg).trans a,(h1.cell (p:=⟨g,off+j*3+1,none⟩) hg).trans b,(h1.cell (p:=⟨g,off+j*3+2,none⟩) hg).trans c⟩)
 have HO:=Lib.hid ho
 obtain⟨len,hlen⟩:∃ len,T.length=len:=⟨_,rfl⟩
 rw[hlen] at hc hln
 have HN:=Lib.hid hlen
 clear hcell ho hrow hlen
 rw[HN.out] at HR ⊢
 go_loopw [6,7] (fun vv p wr=>∃ (n:Nat) (M:List Tr),n≤len∧p=.int .i64 n∧M ++ autos s.data.toList false (T.drop n)=autos s.data.toList false T∧M.length≤2*n∧OwnT wr w1.heap.size vv M∧Below w1.heap.size w1 wr) (fun _ p _=>len - (intOf p).toNat)
 case atStart=>exact⟨0,[],Nat.zero_le _,rfl,rfl,by simp,World.ownsRow_made w1 #[] 0 (Nat.le_refl _) (by decide) rfl,(Below.refl _ _).alloc (Nat.le_refl _) _⟩
 case round=>
  obtain⟨n,M,hnl,rfl,hle,hfew,hown,hb⟩:=hrel
  have HB:=Lib.hid hb
  have HL:=Lib.hid hle
  have HM:=Lib.hid hown
  have hsz:=hb.size
  have hlt:=World.ownsRow.lt hown
  have HLT:=Lib.hid hlt
  clear hb hle hown hlt
  by_cases hlt:n<len
  ·have hltT:n<T.length:=by rw[HN.out];exact hlt
   have hd:decide ((n:Int)<(len:Int))=true:=decide_eq_true (by omega)
   have hne:T≠[]:=by rintro rfl;simp at hltT
   obtain⟨ho,hgB⟩:=HO.out hne
   subst ho
   have hD:=List.drop_eq_getElem_cons hltT
   obtain⟨c0,c1,c2⟩:=HC.out _ HB.out n hltT
   have HCC:Hid (∀ w2,Below w1.heap.size w1 w2→w2.cell? ⟨g,off+n*3,none⟩=some (.int .i64 T[n].k)∧w2.cell? ⟨g,off+n*3+1,none⟩=some (.int .i64 (T[n].i:Int))∧w2.cell? ⟨g,off+n*3+2,none⟩=some (.int .i64 (T[n].j:Int))):=Lib.hid (fun w2 h=>HC.out w2 h n hltT)
   have HX:=Lib.hid (fun(u:World) (hu:Below w1.heap.size w1 u)=>refEnds_any s (.slice (some ⟨g,off,none⟩) len cap) T n u hs (HR.out.below hu) HWI.out HKI.out (by rw[HN.out];omega) hltT)
   generalize T[n]=t at *
   obtain⟨k,i,j⟩:=t
   simp only[] at c0 c1 c2 HCC
   rw[hD,autos] at HL
   clear hne hltT hD
   go_wp2_with (at_builtin;refine wpList_append_own _ rfl _ _ 22 rfl w1.heap.size 55 i0 (.agg #[.int .i64 0,.int .i64 0,.int .i64 0]) 3 24 Tryz.underlying22 hi hz0 hz1 hz2 rfl (by decide) _ _ _ rfl (World.ownsRow.alloc HM.out _) ⟨wr.heap.size,0,none⟩ 1 1 [.int .i64 k,.int .i64 (i:Int),.int .i64 (j:Int)] rfl rfl ?c1 ?c2 ?c3 ?c4 ?c5 ?_)
   try(case c1=>exact three_at wr _ _ _ 55)
   case c2=>first|exact⟨rfl,rfl,rfl⟩|(intro u hu;simp only[List.mem_cons,List.not_mem_nil,or_false] at hu;rcases hu with rfl|rfl|rfl <;> rfl)
   case c3=>unfold maxLen;omega
   case c4=>omega
   case c5=>first|omega|(simp;omega)
   intro v2' w2 hown2 hg _
   have HS:=Lib.hid (step_own1 (t:=⟨k,i,j⟩) HB.out (by omega) HM.out hown2 hg)
   obtain⟨e0,e1,e2⟩:=HCC.out _ HS.out.2
   have hML:(M ++ [(⟨k,i,j⟩:Tr)]).length=M.length+1:=by simp
   have hs2:w1.heap.size≤w2.heap.size:=HS.out.2.size
   have HX2:=Lib.hid (HX.out w2 HS.out.2)
   have HE:=Lib.hid (fun u=>refEndsOf_any k u)
   clear hown2 hg c0 c1 c2 HX
   cases h1:ends k with
   |false=>
    have HA:Hid (autoOf s.data.toList false ⟨k,i,j⟩ (T.drop (n+1))=[]):=Lib.hid (by unfold autoOf;rw[h1];rfl)
    rw[HA.out,List.nil_append] at HL
    rw[h1] at HE
    clear h1 HX2
    go_wp2_with (go_at_call 111;refine(HE.out _).mono ?_;rintro e w' ⟨rfl,rfl⟩)
    go_roundw
    case rel=>exact⟨n+1,_,by omega,by go_num,by rw[← HL.out];simp,by rw[hML];omega,HS.out.1,HS.out.2⟩
    case measure=>simp [intOf];omega
   |true=>
    rw[h1] at HE
    cases h2:lineEnd s.data.toList false (T.drop (n+1)) with
    |false=>
     have HA:Hid (autoOf s.data.toList false ⟨k,i,j⟩ (T.drop (n+1))=[]):=Lib.hid (by unfold autoOf;rw[h2,Bool.and_false,if_neg (by simp)])
     rw[HA.out,List.nil_append] at HL
     rw[h2] at HX2
     clear h1 h2
     go_wp2_with (first|(go_at_call 111;refine(HE.out _).mono ?_;rintro e w' ⟨rfl,rfl⟩)|(go_at_call 112;refine HX2.out.mono ?_;rintro e w3 ⟨rfl,hb3⟩;have HB3:=Lib.hid hb3;clear hb3))
     go_roundw
     case rel=>exact⟨n+1,_,by omega,by go_num,by rw[← HL.out];simp,by rw[hML];omega,dec.own_below HS.out.1 HB3.out,HS.out.2.trans (HB3.out.mono (by omega))⟩
     case measure=>simp [intOf];omega
    |true=>
     have HA:Hid (autoOf s.data.toList false ⟨k,i,j⟩ (T.drop (n+1))=[⟨16,j,j⟩]):=Lib.hid (by unfold autoOf;rw[h1,h2];rfl)
     rw[HA.out] at HL
     rw[h2] at HX2
     clear h1 h2
     go_wp2_with (first|(go_at_call 111;refine(HE.out _).mono ?_;rintro e w' ⟨rfl,rfl⟩)|(go_at_call 112;refine HX2.out.mono ?_;rintro e w3 ⟨rfl,hb3⟩;have HB3:=Lib.hid (HS.out.2.trans (hb3.mono (by omega)));have HM3:=Lib.hid (dec.own_below HS.out.1 hb3);clear e0 e1 e2;obtain⟨e0,e1,e2⟩:=HCC.out _ HB3.out;have hs3:w2.heap.size≤w3.heap.size:=hb3.size;clear hb3))
     have hs3':w1.heap.size≤w3.heap.size:=by omega
     go_region_law (first|(refine step_append_lies _ rfl (.tmp 39) (.tmp 51) 22 rfl w1.heap.size 55 i0 (.agg #[.int .i64 0,.int .i64 0,.int .i64 0]) 3 24 Tryz.underlying22 hi hz0 hz1 hz2 rfl (by decide) v2' (M.length+1) (cellsT (M ++ [⟨k,i,j⟩])) (by simp [Act.eval]) (by have:=(World.ownsRow.drew HM3.out).alloc (.cells #[.int .i64 16,.int .i64 (j:Int),.int .i64 (j:Int)] 55);rw[hML] at this;exact this) ⟨w3.heap.size,0,none⟩ 1 1 [.int .i64 16,.int .i64 (j:Int),.int .i64 (j:Int)] (by simp [Act.eval]) rfl (three_at w3.drew _ _ _ 55) (by intro u hu;simp only[List.mem_cons,List.not_mem_nil,or_false] at hu;rcases hu with rfl|rfl|rfl <;> rfl) (by decide) (by unfold maxLen;omega) (by omega) (by simp;omega) _ rfl ?_;intro g5 cap5 w5 hown5 hg5 hat5 hlt5))
     all_goals
      have HS4:=Lib.hid (own_more (T:=M ++ [⟨k,i,j⟩]) (t:=⟨16,j,j⟩) HB3.out (((Below.refl w1.heap.size w3).alloc hs3' (.cells #[.int .i64 16,.int .i64 (j:Int),.int .i64 (j:Int)] 55)).drew) (by simp;omega) (fun q hq=>(World.ownsRow.lt HM3.out q hq).1) (by rw[hML];exact hown5) hg5)
      clear hown5 hg5 hat5 hlt5
      go_wp2_with fail
      go_roundw
      case rel=>exact⟨n+1,(M ++ [(⟨k,i,j⟩:Tr)]) ++ [(⟨16,j,j⟩:Tr)],by omega,by go_num,by rw[← HL.out];simp,by rw[List.length_append,hML];simp;omega,HS4.out.1,HS4.out.2⟩
      case measure=>simp [intOf];omega
  ·have hd:decide ((n:Int)<(len:Int))=false:=decide_eq_false (by omega)
   have hD:T.drop n=[]:=List.drop_of_length_le (by rw[HN.out];omega)
   rw[hD,autos,List.append_nil] at HL
   clear hD
   go_wp2_with fail
   go_ret2
   exact⟨_,_,rfl,by rw[← HL.out];exact own_mono HM.out hz1',dec.own_below HG.out HB.out,HB1.out.trans (HB.out.mono hz1')⟩
end Go.Proofs.YtcekbbkidipbnaaGreat.lx
