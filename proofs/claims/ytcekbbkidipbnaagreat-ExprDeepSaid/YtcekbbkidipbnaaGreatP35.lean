/-
  Texts put together: Fx, Fy.
-/
import Derived.Test.YtcekbbkidipbnaaGreatP33
import Derived.Test.YtcekbbkidipbnaaGreatP34
import Derived.Deep.RegionHeld3
set_option maxRecDepth 100000
set_option maxHeartbeats 8000000
namespace Go.Proofs.YtcekbbkidipbnaaGreat.rd
open Go.RowKit
theorem Apart.symm {v v2:Value} (h:Apart v v2):Apart v2 v:=fun k h1 h2=>h k h2 h1
def GroupC:Prop:=∀ (C:Keep) (w:World) (b B:Nat) (s:St) (y:Res) (l:List Ent) (any:Bool) (vF vT vN:Value),Hid (At C w b (.ok s))→Hid (Held C w B vF it (l.map fun e=>(e.a:Int)))→Hid (Held C w B vT it (l.map fun e=>(e.b:Int)))→Hid (Held C w B vN bl (l.map Ent.is))→wfE 0 l s.R.length=true→s.R.length+l.length+s.L.length≤549755813888→Hid (rGroup l any (.ok s)=some y)→Calls Tryz.prog 107 #[.pointer (some ⟨b,0,none⟩),vF,vT,vN,.bool any] w (Post C b y)
def Le (C:Keep) (b B:Nat) (one:Res→Option Res) (yf:Res) (lf:List Ent) (n:Nat) (vF vT vN vA:Value) (w:World) (k:Nat):Prop:=
 ∃ (C1:Keep) (l:List Ent) (x:Res),Ext C C1 B∧At C1 w b x∧Held C1 w B vF it (l.map fun e=>(e.a:Int))∧Held C1 w B vT it (l.map fun e=>(e.b:Int))∧Held C1 w B vN bl (l.map Ent.is)∧Apart vF vT∧Apart vF vN∧Apart vT vN∧vA=.bool (l.any Ent.is)∧l.length+k≤n∧rEnts one k l x=some (yf,lf)
noncomputable def leOf (C:Keep) (b B:Nat) (one:Res→Option Res) (yf:Res) (lf:List Ent) (n:Nat) (vF vT vN vA:Value) (w:World):Nat:=least (Le C b B one yf lf n vF vT vN vA w)
theorem Le.least {C:Keep} {b B n k:Nat} {one:Res→Option Res} {yf:Res} {lf:List Ent} {vF vT vN vA:Value} {w:World} (h:Le C b B one yf lf n vF vT vN vA w k):Le C b B one yf lf n vF vT vN vA w (leOf C b B one yf lf n vF vT vN vA w)∧leOf C b B one yf lf n vF vT vN vA w≤k:=zgc h
theorem Mine.empty {α:Type} (F:Kd α) {w:World} {B:Nat} (hB:B≤w.heap.size):Mine F (w.alloc (.cells #[] F.e)) B (.slice (some ⟨w.heap.size,0,none⟩) 0 0) []:=World.ownsRow_lit w #[] 0 hB (by simp [maxLen]) zdF
theorem empties {C:Keep} {w:World} {b:Nat} {x:Res} (h:At C w b x):∃ C1,Ext C C1 w.heap.size∧At C1 (((w.alloc (.cells #[] 3)).alloc (.cells #[] 3)).alloc (.cells #[] 4)) b x ∧
  Held C1 (((w.alloc (.cells #[] 3)).alloc (.cells #[] 3)).alloc (.cells #[] 4)) w.heap.size (.slice (some ⟨w.heap.size,0,none⟩) 0 0) it [] ∧
  Held C1 (((w.alloc (.cells #[] 3)).alloc (.cells #[] 3)).alloc (.cells #[] 4)) w.heap.size (.slice (some ⟨w.heap.size+1,0,none⟩) 0 0) it [] ∧
  Held C1 (((w.alloc (.cells #[] 3)).alloc (.cells #[] 3)).alloc (.cells #[] 4)) w.heap.size (.slice (some ⟨w.heap.size+1+1,0,none⟩) 0 0) bl [] ∧
  Apart (.slice (some ⟨w.heap.size,0,none⟩) 0 0) (.slice (some ⟨w.heap.size+1,0,none⟩) 0 0)∧Apart (.slice (some ⟨w.heap.size,0,none⟩) 0 0) (.slice (some ⟨w.heap.size+1+1,0,none⟩) 0 0)∧Apart (.slice (some ⟨w.heap.size+1,0,none⟩) 0 0) (.slice (some ⟨w.heap.size+1+1,0,none⟩) 0 0):=by
 have z1:(w.alloc (.cells #[] 3)).heap.size=w.heap.size+1:=World.size_alloc _ _
 have z2:((w.alloc (.cells #[] 3)).alloc (.cells #[] 3)).heap.size=w.heap.size+1+1:=by rw[World.size_alloc,z1]
 have z3:(((w.alloc (.cells #[] 3)).alloc (.cells #[] 3)).alloc (.cells #[] 4)).heap.size=w.heap.size+1+1+1:=by rw[World.size_alloc,z2]
 have b1:Below w.heap.size w (w.alloc (.cells #[] 3)):=(Below.refl _ _).alloc (Nat.le_refl _) _
 have b2:Below (w.alloc (.cells #[] 3)).heap.size (w.alloc (.cells #[] 3)) ((w.alloc (.cells #[] 3)).alloc (.cells #[] 3)):=(Below.refl _ _).alloc (Nat.le_refl _) _
 have b3:Below ((w.alloc (.cells #[] 3)).alloc (.cells #[] 3)).heap.size ((w.alloc (.cells #[] 3)).alloc (.cells #[] 3)) (((w.alloc (.cells #[] 3)).alloc (.cells #[] 3)).alloc (.cells #[] 4)):=(Below.refl _ _).alloc (Nat.le_refl _) _
 have m1:=((Mine.empty it (w:=w) (B:=w.heap.size) (Nat.le_refl _)).below b2).below b3
 have m2:=(Mine.empty it (w:=w.alloc (.cells #[] 3)) (B:=w.heap.size) zdC).below b3
 have m3:=Mine.empty bl (w:=(w.alloc (.cells #[] 3)).alloc (.cells #[] 3)) (B:=w.heap.size) zdC
 rw[z1] at m2
 rw[z2] at m3
 obtain⟨h1,h2⟩:=Ext.start h (b1.trans ((b2.mono zdC).trans (b3.mono zdC)))
 refine⟨_,h1,h2,⟨m1,?_⟩,⟨m2,?_⟩,⟨m3,?_⟩,?_,?_,?_⟩
 all_goals
  intro k hk
  simp only[Value.ownBlock,Option.some.injEq] at hk
  subst hk
 ·exact .inr ⟨Nat.le_refl _,by rw[z3];omega⟩
 ·exact .inr ⟨by omega,by rw[z3];omega⟩
 ·exact .inr ⟨by omega,by rw[z3];omega⟩
 all_goals
  simp only[Value.ownBlock,ne_eq,Option.some.injEq]
  omega
theorem zuz {n:Nat} (HCL:CloseC) (HG:GroupC) (ih:∀ k,k≤n→All k) (hn:n≤1099511627776):C0 54 (n+1) .params:=by
 have _:=HCL
 have _:=HG
 have _:=ih
 intro C w b x y hat hy
 have hy:=hy.out
 cases x with
 |fail d0 d1 d2=>
  rw[zfB] at hy
  obtain rfl:=Option.some.inj hy
  exact ziz HCL _ _ _ _ _ _ hat
 |ok s=>
  rw[run] at hy
  try dsimp only at hy
  rw[zfu] at hy
  obtain⟨z1,hz1,hy⟩:=hy
  rw[zfu] at hy
  obtain⟨⟨yf,lf⟩,hz2,hy⟩:=hy
  have HE:=hz2
  have HFIN:=Lib.hid hy
  have HZ:∀ k,C.K k→k<C.W.heap.size:=fun k hk=>(hat.out.kept k hk).2
  clear hy hz2
  go_enter Tryz.func54,Tryz.ntmps54
  go_wp2_with (first|(go_at_call 62;refine(zfE ‹_›).mono ?_;rintro e w' ⟨rfl,rfl⟩)|(go_at_call 34;refine(zfG ‹_› _ zeF).mono ?_;rintro e w1 ⟨rfl,hat1⟩))
  obtain⟨C1,hx1,ha1,hf1,ht1,hn1,hp1,hp2,hp3⟩:=empties hat1.out
  have HST:Hid (Le C b w1.heap.size (run n .entry) yf lf n (.slice (some ⟨w1.heap.size,0,none⟩) 0 0) (.slice (some ⟨w1.heap.size+1,0,none⟩) 0 0) (.slice (some ⟨w1.heap.size+1+1,0,none⟩) 0 0) (.bool false) (((w1.alloc (.cells #[] 3)).alloc (.cells #[] 3)).alloc (.cells #[] 4)) n):=Lib.hid ⟨C1,[],z1,hx1,ha1,hf1,ht1,hn1,hp1,hp2,hp3,rfl,by simp,HE.out⟩
  clear hx1 ha1 hf1 ht1 hn1 hp1 hp2 hp3 hat1 hat HE
  obtain⟨B,hB⟩:∃ B,w1.heap.size=B:=⟨_,rfl⟩
  rw[hB] at HST ⊢
  clear hB
  have HFI:Hid (∀ s1,yf=.ok s1→wfE 0 lf s1.R.length=true∧s1.R.length+lf.length+s1.L.length≤549755813888∧((lf.any Ent.is && unfit s1.R lf)=true→Hid (rFail 201 (.ok s1)=some y))∧((lf.any Ent.is && unfit s1.R lf)=false→∃ g1,Hid (rGroup lf (lf.any Ent.is) (.ok s1)=some g1)∧∃ g2,Hid (rExpect 62 g1=some g2)∧Hid (rClose s.R.length 232 g2=some y))):=Lib.hid (by
   rintro s1 rfl
   have h:=HFIN.out
   unfold rFinish at h
   simp only[] at h
   split at h
   ·rename_i hc
    rw[Bool.and_eq_true,decide_eq_true_iff] at hc
    refine⟨hc.1,hc.2,fun h2=>?_,fun h2=>?_⟩
    ·rw[if_pos h2] at h;exact Lib.hid h
    ·rw[if_neg (by rw[h2];simp)] at h
     rw[zfu] at h
     obtain⟨g1,hg1,h⟩:=h
     rw[zfu] at h
     obtain⟨g2,hg2,h⟩:=h
     exact⟨g1,hg1,g2,hg2,Lib.hid h⟩
   ·cases h)
  have HFF:Hid (∀ d0 d1 d2,yf=.fail d0 d1 d2→y=.fail d0 d1 d2):=Lib.hid (by
   rintro d0 d1 d2 rfl
   exact(Option.some.inj HFIN.out).symm)
  clear HFIN
  obtain⟨an,han⟩:∃ an,lf.any Ent.is=an:=⟨_,rfl⟩
  have HAN:=Lib.hid han
  rw[han] at HFI
  clear han
  go_loopw [3,4,5,6] (fun vF vT vN vA wr=>∃ k,Le C b B (run n .entry) yf lf n vF vT vN vA wr k) (fun vF vT vN vA wr=>leOf C b B (run n .entry) yf lf n vF vT vN vA wr)
  case atStart=>exact⟨n,HST.out⟩
  case round=>
   clear HST
   obtain⟨k0,hle⟩:=hrel
   obtain⟨C1,l,x,hx1,ha1,hf1,ht1,hn1,hp1,hp2,hp3,hva,hlk,hents⟩:=hle.least.1
   obtain⟨q,hq⟩:∃ q,leOf C b B (run n .entry) yf lf n u3 u4 u5 u6 wr=q:=⟨_,rfl⟩
   rw[hq] at hlk hents
   have HQ:=Lib.hid hq
   have HX:=Lib.hid hx1
   have hat:=Lib.hid ha1
   have HROW:=Lib.hid (And.intro hf1 (And.intro ht1 hn1))
   have HP:=Lib.hid (And.intro hp1 (And.intro hp2 hp3))
   have HVA:=Lib.hid hva
   subst hva
   clear hle hq hx1 ha1 hf1 ht1 hn1 hp1 hp2 hp3
   cases q with
   |zero=>exact absurd hents (by simp [rEnts])
   |succ k=>
   rw[rEnts] at hents
   cases x with
   |fail d0 d1 d2=>
    rw[if_pos (.inl rfl)] at hents
    obtain⟨rfl,rfl⟩:=Prod.mk.inj (Option.some.inj hents)
    obtain rfl:=HFF.out _ _ _ rfl
    have hc8:=zft _ _ _ _ hat
    rw[zfv] at hc8
    go_wp2_with fail
    all_goals(first|go_end0|go_ret)
    all_goals exact⟨_,rfl,Lib.hid (At.back HX.out hat.out HZ)⟩
   |ok s1=>
    have hc8:=zft _ _ _ _ hat
    rw[zfw] at hc8
    by_cases h62:(Res.ok s1).kind=62
    ·rw[if_pos (.inr h62)] at hents
     obtain⟨rfl,elf⟩:=Prod.mk.inj (Option.some.inj hents)
     rw[elf] at HROW hlk ⊢
     rw[HAN.out]
     clear HVA elf hents
     obtain⟨hwf,hfew,hfin⟩:=HFI.out _ rfl
     cases an with
     |false=>
      obtain⟨g1,hg1,g2,hg2,hfin⟩:=hfin.2 rfl
      exact zbc
     |true=>
      rw[Bool.true_and] at hfin
      have HFN:=Lib.hid hfin
      clear hfin
      go_wp2_with (go_at_call 95;with_reducible refine(zfC ‹_› zex).mono ?_;rintro e w' ⟨rfl,hat⟩;have hc8:=zft _ _ _ _ hat;rw[zfw] at hc8;have HROW:=zgJ HROW ‹_› hat)
      go_loopw [8] (fun p wr=>∃ i:Nat,i≤lf.length∧p=.int .i64 (i:Int)∧unfit s1.R (lf.drop i)=unfit s1.R lf∧Hid (At C1 wr b (.ok s1))∧Hid (Held C1 wr B u3 it (lf.map fun e=>(e.a:Int))∧Held C1 wr B u4 it (lf.map fun e=>(e.b:Int))∧Held C1 wr B u5 bl (lf.map Ent.is))) (fun p _=>lf.length - (intOf p).toNat)
      case atStart=>exact⟨0,Nat.zero_le _,rfl,rfl,by assumption,by assumption⟩
      case round=>
       clear hat HROW
       obtain⟨i,hil,rfl,hun,hat,HROW⟩:=hrel
       have HUN:=Lib.hid hun
       clear hun
       have hll:lf.length≤1099511627776:=by omega
       by_cases hlt:i<lf.length
       ·obtain⟨gF,oF,cF,hvF,hoF,_⟩:=HROW.out.1.mine.shape
        obtain⟨gN,oN,cN,hvN,hoN,_⟩:=HROW.out.2.2.mine.shape
        rw[List.length_map] at hvF hvN
        have hoF:=hoF zeG
        have hoN:=hoN zeG
        subst hoF
        subst hoN
        have HROW2:=HROW
        subst hvF
        subst hvN
        have cF0:=zgh HROW.out.1.mine.cells i zeH
        have cN0:=ziX HROW.out.2.2.mine.cells i zeH
        rw[List.getElem_map,Nat.zero_add] at cF0 cN0
        rw[List.drop_eq_getElem_cons hlt,unfit] at HUN
        obtain⟨en,hen⟩:∃ en,lf[i]=en:=⟨_,rfl⟩
        rw[hen] at cF0 cN0 HUN
        have hemp:(lf.drop (i+1)).isEmpty=decide (i+1=lf.length):=by
         rw[Bool.eq_iff_iff,List.isEmpty_iff,List.drop_eq_nil_iff,decide_eq_true_iff]
         omega
        rw[hemp] at HUN
        obtain⟨ea,eb,eis⟩:=en
        simp only[] at cF0 cN0 HUN
        obtain⟨len,hlen⟩:∃ len,lf.length=len:=⟨_,rfl⟩
        have HLN:=Lib.hid hlen
        rw[hlen] at hlt hil hll HUN HROW ⊢
        have hd:decide ((i:Int)<(len:Int))=true:=decide_eq_true zdC
        have hd':decide (i<len)=true:=decide_eq_true hlt
        have hq0:(0:Int)≤(i:Int):=by omega
        have hiN:i<(lf.map Ent.is).length:=by rw[List.length_map,HLN.out];exact hlt
        have hgN:(lf.map Ent.is)[i]=eis:=by rw[List.getElem_map,hen]
        have HCN:Hid (∀ u,Hid (At C1 u b (.ok s1))→u.cell? ⟨gN,i,none⟩=some (.bool eis)∧gN<u.heap.size):=Lib.hid (fun u hu=>by
         have hh:=HROW.out.2.2.call hat.out hu.out
         have:=ziX hh.mine.cells i hiN
         rw[hgN,Nat.zero_add] at this
         exact⟨this,hh.mine.lt gN rfl⟩)
        clear hen hlen hemp HROW2 hiN hgN hoF hoN
        obtain⟨kk,hkk⟩:∃ kk,(headT (s1.R.drop ea)).k=kk:=⟨_,rfl⟩
        rw[hkk] at HUN
        have HKK:=Lib.hid hkk
        clear hkk
        have go:(eis=true∨(i+1≠len∧kk=201))∨(eis=false∧(i+1=len∨kk≠201)):=by
         cases eis
         ·by_cases h1:i+1=len
          ·exact .inr ⟨rfl,.inl h1⟩
          ·by_cases h2:kk=201
           ·exact .inl (.inr ⟨h1,h2⟩)
           ·exact .inr ⟨rfl,.inr h2⟩
         ·exact .inl (.inl rfl)
        rcases go with go|⟨rfl,go⟩
        ·have HU2:Hid (unfit s1.R (lf.drop (i+1))=unfit s1.R lf):=Lib.hid (by
          rw[← HUN.out]
          rcases go with rfl|⟨h1,rfl⟩
          ·simp
          ·rw[decide_eq_false h1];simp)
         clear HUN
         have fin:∀ u,Hid (At C1 u b (.ok s1))→∃ i':Nat,i'≤len∧Value.int .i64 ((i:Int)+1)=.int .i64 (i':Int)∧unfit s1.R (lf.drop i')=unfit s1.R lf∧Hid (At C1 u b (.ok s1))∧Hid (Held C1 u B (.slice (some ⟨gF,0,none⟩) len cF) it (lf.map fun e=>(e.a:Int))∧Held C1 u B u4 it (lf.map fun e=>(e.b:Int))∧Held C1 u B (.slice (some ⟨gN,0,none⟩) len cN) bl (lf.map Ent.is)):=fun u hu=>⟨i+1,by omega,by go_num,HU2.out,hu,zgJ HROW hat hu⟩
         have FIN:=Lib.hid fin
         clear fin
         rcases go with rfl|⟨h1,rfl⟩
         ·go_wp2_with (go_at_call 106;refine(zgx ‹_› _).mono ?_;rintro e w2 ⟨⟨k',i',j',o',m',c'⟩,rfl,hat2,hti⟩;have hk':=(TieB.k hti).trans HKK.out;obtain⟨cN1,gN1⟩:=HCN.out _ hat2;have hbz2:=hat2.out.at;rw[show(Rn.mk k' i' j' o' m' c').v=.agg #[.int .i64 k',.int .i64 i',.int .i64 j',.slice o' m' c'] from rfl];obtain rfl:k'=_:=hk';clear hti)
          all_goals exact zaX
         ·cases eis
          ·have hq1:((i:Int) == (len:Int) - 1)=false:=beq_eq_false_iff_ne.2 zdC
           go_wp2_with (go_at_call 106;refine(zgx ‹_› _).mono ?_;rintro e w2 ⟨⟨k',i',j',o',m',c'⟩,rfl,hat2,hti⟩;have hk':=(TieB.k hti).trans HKK.out;obtain⟨cN1,gN1⟩:=HCN.out _ hat2;have hbz2:=hat2.out.at;rw[show(Rn.mk k' i' j' o' m' c').v=.agg #[.int .i64 k',.int .i64 i',.int .i64 j',.slice o' m' c'] from rfl];obtain rfl:k'=_:=hk';clear hti)
           all_goals exact zaX
          ·go_wp2_with (go_at_call 106;refine(zgx ‹_› _).mono ?_;rintro e w2 ⟨⟨k',i',j',o',m',c'⟩,rfl,hat2,hti⟩;have hk':=(TieB.k hti).trans HKK.out;obtain⟨cN1,gN1⟩:=HCN.out _ hat2;have hbz2:=hat2.out.at;rw[show(Rn.mk k' i' j' o' m' c').v=.agg #[.int .i64 k',.int .i64 i',.int .i64 j',.slice o' m' c'] from rfl];obtain rfl:k'=_:=hk';clear hti)
           all_goals exact zaX
        ·have HU2:Hid (unfit s1.R lf=true):=Lib.hid (by
          rw[← HUN.out]
          rcases go with h1|h1
          ·rw[decide_eq_true h1];simp
          ·simp [h1])
         have hfail:=HFN.out.1 HU2.out
         clear HUN HFN
         by_cases h1:i+1=len
         ·have hq1:((i:Int) == (len:Int) - 1)=true:=beq_iff_eq.2 zdC
          clear go
          exact zbr
         ·have hq1:((i:Int) == (len:Int) - 1)=false:=beq_eq_false_iff_ne.2 zdC
          have h2:kk≠201:=by rcases go with h|h;exact absurd h h1;exact h
          have hq2:(kk == 201)=false:=beq_eq_false_iff_ne.2 h2
          clear go h1 h2
          exact zbr
       ·have hd:decide ((i:Int)<(lf.length:Int))=false:=decide_eq_false zdC
        have hd':decide (i<lf.length)=false:=decide_eq_false hlt
        rw[List.drop_of_length_le zdC,unfit] at HUN
        obtain⟨g1,hg1,g2,hg2,hfin⟩:=HFN.out.2 HUN.out.symm
        obtain⟨gN,oN,cN,hvN,_,_⟩:=HROW.out.2.2.mine.shape
        rw[List.length_map] at hvN
        subst hvN
        clear HUN HFN
        exact zbc
    ·rw[if_neg zeI,zfu] at hents
     obtain⟨y1,hy1,hents⟩:=hents
     have hll:l.length≤1099511627776:=by omega
     go_wp2_with (go_at_call 95;with_reducible refine(zfz ‹_› zex).mono ?_;rintro e w' ⟨rfl,hat⟩;have HROW:=zgJ HROW ‹_› hat)
     go_at_call 62
     refine(zfE ‹_›).mono ?_
     rintro e w' ⟨rfl,rfl⟩
     obtain⟨vF1,wF,hrF,C2,hx2,ha2,hF2,hoth2⟩:=Held.push (F:=it) zdD HX.out hat.out HROW.out.1 zeJ zdD (s1.R.length:Int)
     obtain⟨hT2,hp12⟩:=hoth2 _ it _ _ HROW.out.2.1 HP.out.1
     obtain⟨hN2,hp13⟩:=hoth2 _ bl _ _ HROW.out.2.2 HP.out.2.1
     have HRF:=Lib.hid hrF
     have HX2:=Lib.hid hx2
     have HAT2:=Lib.hid ha2
     have HROW2:=Lib.hid (And.intro hF2 (And.intro hT2 hN2))
     have HP2:=Lib.hid (And.intro hp12 (And.intro hp13 HP.out.2.2))
     clear hrF hx2 ha2 hF2 hoth2 hT2 hp12 hN2 hp13 HP HROW hat
     go_wp2_with (at_builtin;refine Lib.wpList_append_run _ rfl _ _ _ _ rfl _ _ rfl rfl _ _ (HRF.out _) ?_)
     obtain⟨nm,hnm⟩:∃ nm,(Res.ok s1).named=nm:=⟨_,rfl⟩
     obtain⟨a1,ha1'⟩:∃ a1,l.any Ent.is=a1:=⟨_,rfl⟩
     have HA1:=Lib.hid ha1'
     rw[ha1']
     go_at_call 105
     refine((ih n (Nat.le_refl _)).entry _ _ _ _ _ HAT2 hy1).mono ?_
     rintro e w2 ⟨rfl,hat⟩
     rw[hnm] at hents ⊢
     have HROW3:=zgJ HROW2 HAT2 hat
     clear hnm ha1' HAT2 HROW2
     cases y1 with
     |fail d0 d1 d2=>
      rw[if_neg (by show ¬ ((0:Int)=60);decide)] at hents
      obtain⟨rfl,_⟩:=Prod.mk.inj (Option.some.inj hents)
      obtain rfl:=HFF.out _ _ _ rfl
      have hk0:(Res.fail d0 d1 d2).kind=0:=rfl
      go_wp2_with fail
      go_at_call 62
      refine(zfD ‹_›).mono ?_
      rintro e w' ⟨⟨v,rfl⟩,rfl⟩
      obtain⟨vT1,wT,hrT,C3,hx3,ha3,hT3,hoth3⟩:=Held.push (F:=it) zdD HX2.out hat.out HROW3.out.2.1 zeJ zdD (v:Int)
      obtain⟨hF3,hp31⟩:=hoth3 _ it _ _ HROW3.out.1 HP2.out.1.symm
      obtain⟨hN3,hp32⟩:=hoth3 _ bl _ _ HROW3.out.2.2 HP2.out.2.2
      have HRT:=Lib.hid hrT
      obtain⟨vN1,wN,hrN,C4,hx4,ha4,hN4,hoth4⟩:=Held.push (F:=bl) zdD hx3 ha3 hN3 zeJ zdD nm
      obtain⟨hF4,hp41⟩:=hoth4 _ it _ _ hF3 HP2.out.2.1.symm
      obtain⟨hT4,hp42⟩:=hoth4 _ it _ _ hT3 hp32.symm
      have HRN:=Lib.hid hrN
      have HX4:=Lib.hid hx4
      have HAT4:=Lib.hid ha4
      have HROW4:=Lib.hid (And.intro hF4 (And.intro hT4 hN4))
      have HP4:=Lib.hid (And.intro hp31.symm (And.intro hp41.symm hp42.symm))
      clear hrT hx3 ha3 hT3 hoth3 hF3 hp31 hN3 hp32 hrN hx4 ha4 hN4 hoth4 hF4 hp41 hT4 hp42 HP2 HROW3 hat
      cases a1 <;> cases nm
      all_goals
       go_wp2_with (first|(at_builtin;refine Lib.wpList_append_run _ rfl _ _ _ _ rfl _ _ rfl rfl _ _ (HRT.out _) ?_)|(at_builtin;refine Lib.wpList_append_run _ rfl _ _ _ _ rfl _ _ rfl rfl _ _ (HRN.out _) ?_)|(go_at_call 95;with_reducible refine(zfz ‹_› zex).mono ?_;rintro e w' ⟨rfl,hat⟩;have hc8:=zft _ _ _ _ hat;rw[zfv] at hc8)|(go_at_call 106;refine(zgx ‹_› _).mono ?_;rintro e w2 ⟨⟨k',i',j',o',m',c'⟩,rfl,hat2,hti⟩;have hk':=(TieB.k hti).trans HKK.out;obtain⟨cN1,gN1⟩:=HCN.out _ hat2;have hbz2:=hat2.out.at;rw[show(Rn.mk k' i' j' o' m' c').v=.agg #[.int .i64 k',.int .i64 i',.int .i64 j',.slice o' m' c'] from rfl];obtain rfl:k'=kk:=hk';clear hti)|(go_at_call 46;refine(zgw (At.alloc hat2 _) _ hfail).mono ?_;rintro e w3 ⟨v,rfl,hat⟩))
       all_goals(first|go_end0|go_ret)
       all_goals exact⟨_,rfl,Lib.hid (At.back HX4.out hat.out HZ)⟩
     |ok s2=>
      go_wp2_with fail
      go_at_call 62
      refine(zfE ‹_›).mono ?_
      rintro e w' ⟨rfl,rfl⟩
      obtain⟨vT1,wT,hrT,C3,hx3,ha3,hT3,hoth3⟩:=Held.push (F:=it) zdD HX2.out hat.out HROW3.out.2.1 zeJ zdD (s2.R.length:Int)
      obtain⟨hF3,hp31⟩:=hoth3 _ it _ _ HROW3.out.1 HP2.out.1.symm
      obtain⟨hN3,hp32⟩:=hoth3 _ bl _ _ HROW3.out.2.2 HP2.out.2.2
      have HRT:=Lib.hid hrT
      obtain⟨vN1,wN,hrN,C4,hx4,ha4,hN4,hoth4⟩:=Held.push (F:=bl) zdD hx3 ha3 hN3 zeJ zdD nm
      obtain⟨hF4,hp41⟩:=hoth4 _ it _ _ hF3 HP2.out.2.1.symm
      obtain⟨hT4,hp42⟩:=hoth4 _ it _ _ hT3 hp32.symm
      have HRN:=Lib.hid hrN
      have HX4:=Lib.hid hx4
      have HAT4:=Lib.hid ha4
      have HROW4:=Lib.hid (And.intro hF4 (And.intro hT4 hN4))
      have HP4:=Lib.hid (And.intro hp31.symm (And.intro hp41.symm hp42.symm))
      clear hrT hx3 ha3 hT3 hoth3 hF3 hp31 hN3 hp32 hrN hx4 ha4 hN4 hoth4 hF4 hp41 hT4 hp42 HP2 HROW3 hat
      have hlk':(l ++ [(⟨s1.R.length,s2.R.length,nm⟩:Ent)]).length+k≤n:=by rw[List.length_append];simp;omega
      have e1:(l.map fun e=>(e.a:Int)) ++ [(s1.R.length:Int)]=(l ++ [(⟨s1.R.length,s2.R.length,nm⟩:Ent)]).map fun e=>(e.a:Int):=by simp
      have e2:(l.map fun e=>(e.b:Int)) ++ [(s2.R.length:Int)]=(l ++ [(⟨s1.R.length,s2.R.length,nm⟩:Ent)]).map fun e=>(e.b:Int):=by simp
      have e3:(l.map Ent.is) ++ [nm]=(l ++ [(⟨s1.R.length,s2.R.length,nm⟩:Ent)]).map Ent.is:=by simp
      have e4:(l ++ [(⟨s1.R.length,s2.R.length,nm⟩:Ent)]).any Ent.is=(a1 || nm):=by rw[List.any_append,HA1.out];simp
      rw[e1,e2,e3] at HROW4
      have HA4:=Lib.hid e4
      clear e1 e2 e3 e4
      have hle1:(Res.ok s1).len=s1.R.length:=rfl
      have hle2:(Res.ok s2).len=s2.R.length:=rfl
      rw[hle1,hle2] at hents
      clear hle1 hle2
      generalize l ++ [(⟨s1.R.length,s2.R.length,nm⟩:Ent)]=l2 at *
      by_cases h60:(Res.ok s2).kind=60
      ·rw[if_pos h60,zfu] at hents
       obtain⟨z3,hz3,hents⟩:=hents
       have HEN:=Lib.hid hents
       clear hents
       have again:∀ u,Hid (At C4 u b z3)→Hid (Held C4 u B vF1 it (l2.map fun e=>(e.a:Int))∧Held C4 u B vT1 it (l2.map fun e=>(e.b:Int))∧Held C4 u B vN1 bl (l2.map Ent.is))→(∃ k,Le C b B (run n .entry) yf lf n vF1 vT1 vN1 (.bool (a1 || nm)) u k)∧leOf C b B (run n .entry) yf lf n vF1 vT1 vN1 (.bool (a1 || nm)) u<leOf C b B (run n .entry) yf lf n u3 u4 u5 (.bool (l.any Ent.is)) wr:=fun u hu hh=>by
        have hl:Le C b B (run n .entry) yf lf n vF1 vT1 vN1 (.bool (a1 || nm)) u k:=⟨C4,l2,z3,HX4.out,hu.out,hh.out.1,hh.out.2.1,hh.out.2.2,HP4.out.1,HP4.out.2.1,HP4.out.2.2,by rw[HA4.out],hlk',HEN.out⟩
        exact⟨⟨k,hl⟩,by rw[HQ.out];have:=hl.least.2;omega⟩
       have AG:=Lib.hid again
       clear again
       cases a1 <;> cases nm
       all_goals
        go_wp2_with (first|(at_builtin;refine Lib.wpList_append_run _ rfl _ _ _ _ rfl _ _ rfl rfl _ _ (HRT.out _) ?_)|(at_builtin;refine Lib.wpList_append_run _ rfl _ _ _ _ rfl _ _ rfl rfl _ _ (HRN.out _) ?_)|(go_at_call 95;with_reducible refine(zfC ‹_› zex).mono ?_;rintro e w' ⟨rfl,hat⟩;have HROW4:=zgJ HROW4 ‹_› hat)|(go_at_call 32;refine(zfK ‹_› hz3).mono ?_;rintro e w' ⟨v,rfl,hat⟩;have HROW5:=zgJ HROW4 ‹_› hat))
        go_roundw
        case rel=>exact(AG.out _ ‹_› ‹_›).1
        case measure=>exact(AG.out _ ‹_› ‹_›).2
      ·rw[if_neg h60] at hents
       obtain⟨rfl,elf⟩:=Prod.mk.inj (Option.some.inj hents)
       rw[elf] at HROW4 hlk' HA4
       have hae:an=(a1 || nm):=by rw[← HAN.out,HA4.out]
       clear elf hents HAN HA4
       rw[hae] at HFI
       cases a1 <;> cases nm
       all_goals simp only[Bool.or_self,Bool.or_true,Bool.or_false] at HFI
       ·obtain⟨hwf,hfew,hfin⟩:=HFI.out _ rfl
        obtain⟨g1,hg1,g2,hg2,hfin⟩:=hfin.2 rfl
        go_wp2_with (first|(at_builtin;refine Lib.wpList_append_run _ rfl _ _ _ _ rfl _ _ rfl rfl _ _ (HRT.out _) ?_)|(at_builtin;refine Lib.wpList_append_run _ rfl _ _ _ _ rfl _ _ rfl rfl _ _ (HRN.out _) ?_)|(go_at_call 95;with_reducible refine(zfz ‹_› zex).mono ?_;rintro e w' ⟨rfl,hat⟩;have hc8:=zft _ _ _ _ hat;rw[zfw] at hc8;have HROW4:=zgJ HROW4 ‹_› hat)|(go_at_call 107;refine(HG _ _ _ _ _ _ _ _ _ _ _ ‹_› (Lib.hid HROW4.out.1) (Lib.hid HROW4.out.2.1) (Lib.hid HROW4.out.2.2) hwf hfew hg1).mono ?_;rintro e w' ⟨v,rfl,hat⟩)|(go_at_call 34;refine(zfG ‹_› _ zeF).mono ?_;rintro e w' ⟨rfl,hat⟩)|(go_at_call 38;refine(HCL _ _ _ _ _ _ _ _ ‹_› (fun _=>rfl) zeF).mono ?_;rintro e w' ⟨v,rfl,hat⟩))
        go_end0
        exact⟨_,rfl,Lib.hid (At.back HX4.out hat.out HZ)⟩
       ·obtain⟨hwf,hfew,hfin⟩:=HFI.out _ rfl
        exact zaj
       ·obtain⟨hwf,hfew,hfin⟩:=HFI.out _ rfl
        exact zaj
       ·obtain⟨hwf,hfew,hfin⟩:=HFI.out _ rfl
        exact zaj
open Go.RowKit
def Res.push (x:Res) (t:Tree) (k:Int):Res:=match x with
 |.ok s=>.ok { s with R:=s.R ++ [t],H:=s.H ++ [k] }
 |.fail a b c=>.fail a b c
def Res.back (x:Res) (R:List Tree) (H:List Int) (a b:Nat):Res:=match x with
 |.ok s=>.ok (s.back R H a b)
 |.fail d0 d1 d2=>.fail d0 d1 d2
theorem zkZ {α:Type} (R:List α) (a c:Nat) (hac:a≤c) (hc:c<R.length):(R.drop a).take (c+1 - a)=(R.drop a).take (c - a) ++ [R[c]]:=by
 rw[show c+1 - a=(c - a)+1 by omega,List.take_add_one,List.getElem?_drop,show a+(c - a)=c by omega,List.getElem?_eq_getElem hc]
 rfl
theorem zkY (x:Res) (R:List Tree) (H:List Int) (a c:Nat) (hac:a≤c) (hR:c<R.length) (hH:c<H.length):x.back R H a (c+1)=(x.back R H a c).push R[c] H[c]:=by
 cases x with
 |fail=>rfl
 |ok s=>
  simp only[Res.back,Res.push,St.back,zkZ R a c hac hR,zkZ H a c hac hH,List.append_assoc]
theorem zgI (x:Res) (R:List Tree) (H:List Int) (a:Nat):x.back R H a a=x:=by
 cases x with
 |fail=>rfl
 |ok s=>simp [Res.back,St.back]
theorem AtD.at {C:Keep} {w:World} {b:Nat} {x:Res} {D:Nat→Prop} {N:Nat} {L:List Tk} (h:AtD C w b x D N L):At C w b x:=by
 obtain⟨vL,vR,vH,σ,hr,ho,hi,_,_⟩:=h
 exact⟨vL,vR,vH,σ,D,hr,ho,hi⟩
theorem AtD.below {C:Keep} {w w':World} {b:Nat} {x:Res} {D:Nat→Prop} {N:Nat} {L:List Tk} (h:AtD C w b x D N L) (hb:Below w.heap.size w w'):AtD C w' b x D N L:=by
 obtain⟨vL,vR,vH,σ,hr,ho,hi,hN,hL⟩:=h
 have hn:Nx w b vR vH w' vR vH:=Nx.below hb
 refine⟨vL,vR,vH,σ,hr.below hb,ho.step hn,?_,hN,hL⟩
 exact zbK
theorem AtD.mono {C:Keep} {w:World} {b:Nat} {x:Res} {D:Nat→Prop} {N N':Nat} {L:List Tk} (h:AtD C w b x D N L) (hN:N≤N'):AtD C w b x D N' L:=by
 obtain⟨vL,vR,vH,σ,hr,ho,hi,h1,hL⟩:=h
 exact⟨vL,vR,vH,σ,hr,ho,hi,Nat.le_trans h1 hN,hL⟩
theorem ziY {C:Keep} {w:World} {b:Nat} {x:Res} {D:Nat→Prop} {N:Nat} {L:List Tk} (h:AtD C w b x D N L) (t:Tree) (n:Rn) (k:Int) (ht:Tie w D t n) (hk:0≤k∧k≤100) (hN1:N+1+L.length≤549755813888) :
  Calls Tryz.prog 67 #[.pointer (some ⟨b,0,none⟩),n.v,.int .i64 k] w fun e w'=>∃ v,e=.returned v∧AtD C w' b (x.push t k) D (N+1) L:=by
 obtain⟨vL,vR,vH,σ,hr,ho,hi,hN,hL⟩:=h
 obtain⟨hf1,hf2⟩:=zkM hi
 refine(zkg hr n k zdC zdC).mono ?_
 rintro e w' ⟨v,vR',vH',rfl,hr',hn⟩
 refine⟨v,rfl,vL,vR',vH',_,hr',ho.step hn,?_,by show(σ.R ++ [n]).length≤_;rw[List.length_append];simp;omega,hL⟩
 cases x with
 |fail a0 a1 a2=>
  obtain⟨h1,h2,h3,h4,h5,h6,h7⟩:=hi
  exact⟨h1,h2,h3,h4,by show(σ.H ++ [k]).length=(σ.R ++ [n]).length;rw[List.length_append,List.length_append,h5];rfl,h6,by show(σ.R ++ [n]).length+σ.L.length≤_;rw[List.length_append,hL];simp;omega⟩
 |ok s=>
  obtain⟨h1,h2,h3,h4,h5,h6,h7,h8,h9,h10⟩:=hi
  have hl:=h4.length
  refine⟨h1,h2,h3,(ho.ties hn h4).append (ho.ties hn (Ties.cons ht Ties.nil)),by show σ.H ++ [k]=s.H ++ [k];rw[h5],h6,by show(s.H ++ [k]).length=(s.R ++ [t]).length;rw[List.length_append,List.length_append,h7];rfl,fun z hz=>?_,h9,by show(s.R ++ [t]).length+s.L.length≤_;rw[List.length_append,← h2,hL];simp;omega⟩
  rcases List.mem_append.1 hz with hz|hz
  ·exact h8 z hz
  ·rw[List.mem_singleton] at hz;subst hz;exact hk
structure Five (C:Keep) (w:World) (B:Nat) (vR vH vF vT vN:Value) (R:List Rn) (H:List Int) (l:List Ent):Prop where
 r:Held C w 0 vR nd R
 h:Held C w 0 vH it H
 f:Held C w B vF it (l.map fun e=>(e.a:Int))
 t:Held C w B vT it (l.map fun e=>(e.b:Int))
 n:Held C w B vN bl (l.map Ent.is)
theorem Five.call {C:Keep} {w w':World} {b B:Nat} {x y:Res} {vR vH vF vT vN:Value} {R:List Rn} {H:List Int} {l:List Ent} (h:Five C w B vR vH vF vT vN R H l) (h1:At C w b x) (h2:At C w' b y):Five C w' B vR vH vF vT vN R H l:=
 ⟨h.r.call h1 h2,h.h.call h1 h2,h.f.call h1 h2,h.t.call h1 h2,h.n.call h1 h2⟩
theorem zir {e:Ent} {r:List Ent} {lo n:Nat} (h:wfE lo (e::r) n=true):lo≤e.a∧e.a≤e.b∧e.b≤n∧wfE e.b r n=true:=by
 rw[wfE,Bool.and_eq_true,Bool.and_eq_true,decide_eq_true_iff,decide_eq_true_iff] at h
 refine⟨h.1.1,h.1.2,?_,h.2⟩
 have:∀ (r:List Ent) (lo:Nat),wfE lo r n=true→lo≤n:=by
  intro r
  induction r with
  |nil=>intro lo h;rw[wfE,decide_eq_true_iff] at h;exact h
  |cons f r ih=>
   intro lo h
   rw[wfE,Bool.and_eq_true,Bool.and_eq_true,decide_eq_true_iff,decide_eq_true_iff] at h
   have:=ih _ h.2
   omega
 exact this r _ h.2
def nextA (r:List Ent) (n:Nat):Nat:=match r with|[]=>n|f::_=>f.a
theorem zlB {r:List Ent} {lo n:Nat} (h:wfE lo r n=true):lo≤nextA r n∧nextA r n≤n∧wfE (nextA r n) r n=true:=by
 cases r with
 |nil=>
  rw[wfE,decide_eq_true_iff] at h
  exact⟨h,Nat.le_refl _,by rw[wfE,decide_eq_true_iff];exact Nat.le_refl _⟩
 |cons f r=>
  obtain⟨h1,h2,h3,h4⟩:=zir h
  exact⟨h1,by show f.a≤n;omega,by show wfE f.a (f::r) n=true;rw[wfE,h4];simp [h2]⟩
theorem zjL {R:List Tree} {H:List Int} {any:Bool} {e:Ent} {r:List Ent} {m a:Nat} {x y:Res} (he:(!any || e.is)=true) (h:rGroups R H any (e::r) m a x=some y) :
  ∃ y1,Hid (rClose (m:Int) 233 (x.back R H a e.b)=some y1)∧rGroups R H any r (y1.back R H e.b (nextA r R.length)).len (nextA r R.length) (y1.back R H e.b (nextA r R.length))=some y:=by
 cases x with
 |fail a0 a1 a2=>
  obtain rfl:=Option.some.inj (show some (Res.fail a0 a1 a2)=some y from h)
  refine⟨.fail a0 a1 a2,Lib.hid rfl,?_⟩
  show rGroups R H any r _ _ (.fail a0 a1 a2)=_
  cases r <;> rfl
 |ok s=>
  rw[rGroups.eq_def] at h
  simp only[] at h
  rw[if_pos he,zfu] at h
  obtain⟨y1,hy1,h⟩:=h
  refine⟨y1,hy1,?_⟩
  cases y1 with
  |fail b0 b1 b2=>
   simp only[] at h
   obtain rfl:=Option.some.inj h
   show rGroups R H any r _ _ (.fail b0 b1 b2)=_
   cases r <;> rfl
  |ok t=>exact h
theorem zmm {R:List Tree} {H:List Int} {any:Bool} {e:Ent} {r:List Ent} {m a:Nat} {x y:Res} (he:(!any || e.is)=false) (h:rGroups R H any (e::r) m a x=some y):rGroups R H any r m e.b (x.back R H a e.b)=some y:=by
 cases x with
 |fail a0 a1 a2=>
  obtain rfl:=Option.some.inj (show some (Res.fail a0 a1 a2)=some y from h)
  show rGroups R H any r _ _ (.fail a0 a1 a2)=_
  cases r <;> rfl
 |ok s=>
  rw[rGroups.eq_def] at h
  simp only[] at h
  rw[if_neg (by rw[he];simp)] at h
  exact h
end Go.Proofs.YtcekbbkidipbnaaGreat.rd
