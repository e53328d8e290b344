/-
  Texts put together: Fo, Fq, Fu, Fs, Fv.
-/
import Derived.Test.YtcekbbkidipbnaaGreatP28
set_option maxRecDepth 100000
set_option maxHeartbeats 8000000
namespace Go.Proofs.YtcekbbkidipbnaaGreat.rd
open Go.RowKit
def TieB (w:World) (t:Tree) (n:Rn):Prop:=∃ D,Tie w D t n∧∀ k,D k→k<w.heap.size
theorem TieB.below {w w':World} {t:Tree} {n:Rn} (h:Hid (TieB w t n)) (hb:Below w.heap.size w w'):Hid (TieB w' t n):=by
 obtain⟨D,h1,h2⟩:=h.out
 exact Lib.hid ⟨D,Tie.keep (fun g hg=>hb.block g (h2 g hg)) (fun _ h=>h) t n h1,fun k hk=>Nat.lt_of_lt_of_le (h2 k hk) hb.size⟩
theorem znw {w:World} {D:Nat→Prop}:∀ {l:List Tree} {R:List Rn},Ties w D l R→Tie w D (headT l) (headSig R)
 |[],R,h=>by rw[Ties] at h;subst h;exact zhT _ _ _ _ _
 |t::l,R,h=>by
  rw[Ties] at h
  obtain⟨n,R',rfl,h3,h4⟩:=h
  rw[headT,headSig,h3.k]
  split
  ·exact h3
  ·exact znw h4
theorem znf {w:World} {D:Nat→Prop}:∀ {l:List Tree} {R:List Rn},Ties w D l R→Tie w D (partT l) (headPart R)
 |[],R,h=>by rw[Ties] at h;subst h;exact zhT _ _ _ _ _
 |t::l,R,h=>by
  rw[Ties] at h
  obtain⟨n,R',rfl,h3,h4⟩:=h
  rw[partT,headPart,h3.k]
  split
  ·exact h3
  ·exact znf h4
theorem Tie.kids {w:World} {D:Nat→Prop} {t:Tree} {n:Rn} (h:Tie w D t n):∃ R,Row nd w (.slice n.o n.n n.c) R∧R.length≤1099511627776∧Ties w D t.l R:=by
 obtain⟨k,i,j,l⟩:=t
 rw[Tie] at h
 obtain⟨_,_,_,h4,g,off,R,⟨h5,h5'⟩,h6,h7,h8⟩:=h
 have hl:=h8.length
 refine⟨R,⟨g,off,n.o,n.c,by omega,by rw[hl,← h4],fun e=>(h6 (fun e2=>e (List.eq_nil_of_length_eq_zero (by rw[hl,e2];rfl)))).1,h7⟩,by omega,h8⟩
section
variable {C:Keep} {w:World} {b:Nat} {x y:Res}
theorem At.below (h:Hid (At C w b x)) {w':World} (hb:Below w.heap.size w w'):Hid (At C w' b x):=by
 obtain⟨vL,vR,vH,σ,D,hr,ho,hi⟩:=h.out
 have hn:Nx w b vR vH w' vR vH:=Nx.below hb
 refine Lib.hid ⟨vL,vR,vH,σ,D,hr.below hb,ho.step hn,?_⟩
 exact zbK
theorem zgx {s:St} (h:Hid (At C w b (.ok s))) (m:Nat):Calls Tryz.prog 106 #[.pointer (some ⟨b,0,none⟩),.int .i64 (m:Int)] w fun e w'=>∃ n:Rn,e=.returned n.v∧Hid (At C w' b (.ok s))∧Hid (TieB w' (headT (s.R.drop m)) n):=by
 obtain⟨vL,vR,vH,σ,D,hr,ho,hi⟩:=h.out
 have hi':=hi
 obtain⟨h1,h2,h3,h4,h5,h6,h7,h8,h9,h10⟩:=hi
 have hlen:=h4.length
 refine(zpb hr m zdC).mono ?_
 rintro e w' ⟨rfl,hb⟩
 refine⟨_,rfl,At.below h hb,TieB.below (Lib.hid ⟨D,znw (h4.drop m),fun k hk=>(ho.dead k hk).1⟩) hb⟩
theorem zqM {t:Tree} {n:Rn} (h:Hid (TieB w t n)):Calls Tryz.prog 181 #[n.v] w fun e w'=>∃ n':Rn,e=.returned n'.v∧Below w.heap.size w w'∧Hid (TieB w' (partT t.l) n'):=by
 obtain⟨D,h1,h2⟩:=h.out
 obtain⟨R,hr,hl,ht⟩:=h1.kids
 refine(zuw n R hr hl).mono ?_
 rintro e w' ⟨rfl,hb⟩
 exact⟨_,rfl,hb,TieB.below (Lib.hid ⟨D,znf ht,h2⟩) hb⟩
end
theorem TieB.k {w:World} {t:Tree} {n:Rn} (h:Hid (TieB w t n)):n.k=t.k:=by obtain⟨D,h1,_⟩:=h.out;exact h1.k
theorem zpm {w:World} {t:Tree} {n:Rn} (h:Hid (TieB w t n)):Calls Tryz.prog 180 #[n.v] w fun e w'=>e=.returned (.bool (namedT t))∧Below w.heap.size w w':=by
 have hk:=TieB.k h
 have HP:Hid (∀ u,Below w.heap.size w u→Calls Tryz.prog 181 #[n.v] u fun e w'=>∃ n':Rn,e=.returned n'.v∧Below w.heap.size w w'∧Hid (TieB w' (partT t.l) n')):=Lib.hid (fun u hu=>(zqM (TieB.below h hu)).mono zeB)
 obtain⟨k,i,j,o,m,c⟩:=n
 rw[show(Rn.mk k i j o m c).v=.agg #[.int .i64 k,.int .i64 i,.int .i64 j,.slice o m c] from rfl] at *
 simp only[] at hk
 have HR:Hid (namedT t=(t.k == 201 || (t.k == 207 && (partT t.l).k == 201))):=Lib.hid rfl
 rw[← hk] at HR
 generalize namedT t=res at *
 clear hk h
 by_cases h1:k=201
 ·subst h1
  have hr:Hid (res=true):=Lib.hid (by rw[HR.out];rfl)
  go_enter Tryz.func180,Tryz.ntmps180
  exact zdu
 ·have e1:(k == 201)=false:=beq_eq_false_iff_ne.2 h1
  rw[e1,Bool.false_or] at HR
  by_cases h2:k=207
  ·subst h2
   rw[show((207:Int) == 207)=true from rfl,Bool.true_and] at HR
   clear h1
   go_enter Tryz.func180,Tryz.ntmps180
   go_wp2_with (go_at_call 181;refine(HP.out _ ?_).mono ?_;(first|exact Below.refl _ _|exact(Below.refl _ _).alloc (Nat.le_refl _) _);rintro e w' ⟨⟨k',i',j',o',m',c'⟩,rfl,hb,ht⟩;have hk':k'=(partT t.l).k:=TieB.k ht;rw[← hk'] at HR;clear hk';rw[show(Rn.mk k' i' j' o' m' c').v=.agg #[.int .i64 k',.int .i64 i',.int .i64 j',.slice o' m' c'] from rfl] at *;have hfd:∀ u:World,(Instr.field 43 (.agg #[.int .i64 k',.int .i64 i',.int .i64 j',.slice o' m' c']) 0).run Tryz.prog u=.ok (.int .i64 k') u:=fun _=>by kernel_rfl)
   all_goals go_ret
   all_goals exact⟨by rw[HR.out];rfl,hb⟩
  ·have e2:(k == 207)=false:=beq_eq_false_iff_ne.2 h2
   rw[e2,Bool.false_and] at HR
   clear h1 h2
   go_enter Tryz.func180,Tryz.ntmps180
   exact zdv
theorem zsq {w w':World} {k i j:Int} {o:Option Addr} {m c:Nat} {e:TypeId} (hb:Below (w.alloc (.cells #[.int .i64 k,.int .i64 i,.int .i64 j,.slice o m c] e)).heap.size (w.alloc (.cells #[.int .i64 k,.int .i64 i,.int .i64 j,.slice o m c] e)) w') :
  w'.cell? ⟨w.heap.size,0,none⟩=some (.int .i64 k)∧w'.cell? ⟨w.heap.size,1,none⟩=some (.int .i64 i)∧w'.cell? ⟨w.heap.size,2,none⟩=some (.int .i64 j)∧w'.cell? ⟨w.heap.size,3,none⟩=some (.slice o m c):=by
 have hh:=heap_alloc_last w (.cells #[.int .i64 k,.int .i64 i,.int .i64 j,.slice o m c] e)
 have hz:w.heap.size<(w.alloc (.cells #[.int .i64 k,.int .i64 i,.int .i64 j,.slice o m c] e)).heap.size:=by rw[World.size_alloc];omega
 refine⟨(hb.cell (p:=⟨w.heap.size,0,none⟩) hz).trans ?_,(hb.cell (p:=⟨w.heap.size,1,none⟩) hz).trans ?_,(hb.cell (p:=⟨w.heap.size,2,none⟩) hz).trans ?_,(hb.cell (p:=⟨w.heap.size,3,none⟩) hz).trans ?_⟩
 ·rw[cell_of_row _ _ 0 _ _ _ hh];rfl
 ·rw[cell_of_row _ _ 1 _ _ _ hh];rfl
 ·rw[cell_of_row _ _ 2 _ _ _ hh];rfl
 ·rw[cell_of_row _ _ 3 _ _ _ hh];rfl
theorem zhd {w:World} {t:Tree} {n:Rn} (hd:Bool) (h:Hid (TieB w t n)):Calls Tryz.prog 164 #[n.v,.bool hd] w fun e w'=>e=.returned (.bool (literalT t hd))∧Below w.heap.size w w':=by
 have hk:=TieB.k h
 have HP:Hid (∀ u,Below w.heap.size w u→Calls Tryz.prog 181 #[n.v] u fun e w'=>∃ n':Rn,e=.returned n'.v∧Below w.heap.size w w'∧Hid (TieB w' (partT t.l) n')):=Lib.hid (fun u hu=>(zqM (TieB.below h hu)).mono zeB)
 have HN:Hid (∀ u,Below w.heap.size w u→Calls Tryz.prog 180 #[n.v] u fun e w'=>e=.returned (.bool (namedT t))∧Below w.heap.size w w'∧Below u.heap.size u w'):=Lib.hid (fun u hu=>(zpm (TieB.below h hu)).mono (by rintro e w' ⟨h1,h2⟩;exact⟨h1,hu.trans (h2.mono hu.size),h2⟩))
 obtain⟨k,i,j,o,m,c⟩:=n
 rw[show(Rn.mk k i j o m c).v=.agg #[.int .i64 k,.int .i64 i,.int .i64 j,.slice o m c] from rfl] at *
 simp only[] at hk
 have HR:Hid (literalT t hd=(t.k == 220 || t.k == 221 || t.k == 222 || t.k == 224 || (!hd && (namedT t || (t.k == 208 && namedT (partT t.l)))))):=Lib.hid rfl
 rw[← hk] at HR
 generalize literalT t hd=res at *
 clear hk h
 by_cases h0:k=220∨k=221∨k=222∨k=224
 ·have hr:Hid (res=true):=Lib.hid (by rw[HR.out];rcases h0 with rfl|rfl|rfl|rfl <;> rfl)
  clear HP HN HR
  rcases h0 with rfl|rfl|rfl|rfl
  all_goals
   go_enter Tryz.func164,Tryz.ntmps164
   exact zdu
 ·simp only[not_or] at h0
  obtain⟨a1,a2,a3,a4⟩:=h0
  have e1:(k == 220)=false:=beq_eq_false_iff_ne.2 a1
  have e2:(k == 221)=false:=beq_eq_false_iff_ne.2 a2
  have e3:(k == 222)=false:=beq_eq_false_iff_ne.2 a3
  have e4:(k == 224)=false:=beq_eq_false_iff_ne.2 a4
  rw[e1,e2,e3,e4,Bool.false_or,Bool.false_or,Bool.false_or,Bool.false_or] at HR
  clear a1 a2 a3 a4
  cases hd with
  |true=>
   go_enter Tryz.func164,Tryz.ntmps164
   exact zdv
  |false=>
   rw[show(!false)=true from rfl,Bool.true_and] at HR
   cases hn:namedT t with
   |true=>
    rw[hn] at HR HN
    go_enter Tryz.func164,Tryz.ntmps164
    go_wp2_with (go_at_call 180;refine(HN.out _ ((Below.refl _ _).alloc (Nat.le_refl _) _)).mono ?_;rintro e w' ⟨rfl,hb,hb'⟩)
    go_ret
    exact⟨by rw[HR.out];rfl,hb⟩
   |false=>
    rw[hn,Bool.false_or] at HR
    rw[hn] at HN
    by_cases h8:k=208
    ·subst h8
     rw[show((208:Int) == 208)=true from rfl,Bool.true_and] at HR
     clear e1 e2 e3 e4 hn
     go_enter Tryz.func164,Tryz.ntmps164
     go_wp2_with (first|(go_at_call 180;refine(HN.out _ ((Below.refl _ _).alloc (Nat.le_refl _) _)).mono ?_;rintro e w' ⟨rfl,hb,hb'⟩;obtain⟨q0,q1,q2,q3⟩:=zsq hb';clear hb' HN)|(go_at_call 181;refine(HP.out _ hb).mono ?_;rintro e w'' ⟨⟨k',i',j',o',m',c'⟩,rfl,hb2,ht⟩;have HN2:=Lib.hid (zpm ht);rw[show(Rn.mk k' i' j' o' m' c').v=.agg #[.int .i64 k',.int .i64 i',.int .i64 j',.slice o' m' c'] from rfl] at *)|(go_at_call 180;refine HN2.out.mono ?_;rintro e w3 ⟨rfl,hb3⟩))
     all_goals go_ret
     all_goals exact⟨by rw[HR.out];rfl,hb2.trans (hb3.mono hb2.size)⟩
    ·have e5:(k == 208)=false:=beq_eq_false_iff_ne.2 h8
     rw[e5,Bool.false_and] at HR
     clear h8
     go_enter Tryz.func164,Tryz.ntmps164
     go_wp2_with (go_at_call 180;refine(HN.out _ ((Below.refl _ _).alloc (Nat.le_refl _) _)).mono ?_;rintro e w' ⟨rfl,hb,hb'⟩;obtain⟨q0,q1,q2,q3⟩:=zsq hb';clear hb' HN)
     all_goals go_ret
     all_goals exact⟨by rw[HR.out];rfl,hb⟩
open Go.RowKit
theorem zsk {n:Nat} (HCL:CloseC) (ih:∀ k,k≤n→All k):CB 143 (n+1) .primary:=by
 have _:=HCL
 have _:=ih
 intro C w b x y h hat hy
 have hy:=hy.out
 cases x with
 |fail d0 d1 d2=>
  rw[zfB] at hy
  obtain rfl:=Option.some.inj hy
  exact zia HCL _ _ _ _ _ _ _ hat
 |ok s=>
  rw[run] at hy
  try dsimp only at hy
  rw[zfu] at hy
  obtain⟨z1,hz1,hy⟩:=hy
  replace hy:=Lib.hid hy
  go_enter Tryz.func143,Tryz.ntmps143
  go_wp2_with (first|(go_at_call 62;first|(refine(zfE ‹_›).mono ?_;rintro e w' ⟨rfl,rfl⟩)|(refine(zfD ‹_›).mono ?_;rintro e w' ⟨⟨v,rfl⟩,rfl⟩))|(go_at_call 160;first|(refine((ih _ ?hk).operand _ _ _ _ _ ‹_› ‹_›).mono ?_;(case hk=>omega);rintro e w' ⟨v,rfl,hat⟩)|(refine(zgG HCL _ _ _ _ _ _ ‹_›).mono ?_;rintro e w' ⟨v,rfl,hat⟩);have hc8:=zft _ _ _ _ hat;first|rw[zfw] at hc8|rw[zfv] at hc8|skip)|(go_at_call 161;first|(refine((ih _ ?hk).period _ _ _ _ _ _ _ ‹_› zev ‹_›).mono ?_;(case hk=>omega);rintro e w' ⟨v,rfl,hat⟩)|(refine(zhp HCL _ _ _ _ _ _ _ ‹_›).mono ?_;rintro e w' ⟨v,rfl,hat⟩);have hc8:=zft _ _ _ _ hat;first|rw[zfw] at hc8|rw[zfv] at hc8|skip)|(go_at_call 162;first|(refine((ih _ ?hk).index _ _ _ _ _ _ _ ‹_› zev ‹_›).mono ?_;(case hk=>omega);rintro e w' ⟨v,rfl,hat⟩)|(refine(zhM HCL _ _ _ _ _ _ _ ‹_›).mono ?_;rintro e w' ⟨v,rfl,hat⟩);have hc8:=zft _ _ _ _ hat;first|rw[zfw] at hc8|rw[zfv] at hc8|skip)|(go_at_call 163;first|(refine((ih _ ?hk).call _ _ _ _ _ _ _ ‹_› zev ‹_›).mono ?_;(case hk=>omega);rintro e w' ⟨v,rfl,hat⟩)|(refine(zih HCL _ _ _ _ _ _ _ ‹_›).mono ?_;rintro e w' ⟨v,rfl,hat⟩);have hc8:=zft _ _ _ _ hat;first|rw[zfw] at hc8|rw[zfv] at hc8|skip)|(go_at_call 165;first|(refine((ih _ ?hk).values _ _ _ _ _ ‹_› ‹_›).mono ?_;(case hk=>omega);rintro e w' ⟨v,rfl,hat⟩)|(refine(zhb HCL _ _ _ _ _ _ ‹_›).mono ?_;rintro e w' ⟨v,rfl,hat⟩);have hc8:=zft _ _ _ _ hat;first|rw[zfw] at hc8|rw[zfv] at hc8|skip)|(go_at_call 38;refine(HCL _ _ _ _ _ _ _ _ ‹_› zev zew).mono ?_;rintro e w' ⟨v,rfl,hat⟩;have hc8:=zft _ _ _ _ hat;first|rw[zfw] at hc8|rw[zfv] at hc8|skip)|(go_at_call 95;first|(with_reducible refine(zfC ‹_› ?hc).mono ?_;(case hc=>simp [Res.comes, *]);rintro e w' ⟨rfl,hat⟩)|(with_reducible refine(zfz ‹_› ?hc).mono ?_;(case hc=>simp [Res.comes, *]);rintro e w' ⟨rfl,hat⟩);have hc8:=zft _ _ _ _ hat;first|rw[zfw] at hc8|rw[zfv] at hc8|skip)|(go_at_call 106;refine(zgx ‹_› _).mono ?_;rintro e w' ⟨n',rfl,hat,hti⟩;have hc8:=zft _ _ _ _ hat;first|rw[zfw] at hc8|rw[zfv] at hc8|skip)|(go_at_call 164;refine(zhd _ ‹_›).mono ?_;rintro e w2 ⟨rfl,hb2⟩;have hat:=At.below ‹_› hb2;have hc8:=zft _ _ _ _ hat;first|rw[zfw] at hc8|rw[zfv] at hc8|skip))
  go_loopw [] (fun wr=>Lq C b y (.primL h s.R.length) n wr) (fun wr=>lpOf C b y (.primL h s.R.length) wr)
  case atStart=>exact Lq.at ‹_› ‹_›
  case round=>
   rcases hrel.out with⟨d0,d1,d2,hu,hat⟩|⟨k,s',hk,hq,hat,hy'⟩
   ·subst hu
    have hk0:(Res.fail d0 d1 d2).kind=0:=rfl
    have hc8:=zft _ _ _ _ hat
    rw[zfv] at hc8
    exact zab
   ·rw[run] at hy'
    try dsimp only at hy'
    have hc8:=zft _ _ _ _ hat
    rw[zfw] at hc8
    have hlt:(Res.ok s').lit s.R.length h=literalT (headT (s'.R.drop s.R.length)) h:=rfl
    rw[hlt] at hy'
    obtain⟨lt,hl2⟩:∃ lt,literalT (headT (s'.R.drop s.R.length)) h=lt:=⟨_,rfl⟩
    rw[hl2] at hy'
    clear hlt
    have hy2:=hy'
    clear hy'
    split at hy2
    ·iterate 16 (all_goals try(first|split at hy2|(rw[zfu] at hy2;obtain⟨z,hz,hy2⟩:=hy2;try(rw[zfF] at hz;subst hz))))
     all_goals exact zax
    ·split at hy2
     ·iterate 16 (all_goals try(first|split at hy2|(rw[zfu] at hy2;obtain⟨z,hz,hy2⟩:=hy2;try(rw[zfF] at hz;subst hz))))
      all_goals exact zax
     ·split at hy2
      ·iterate 16 (all_goals try(first|split at hy2|(rw[zfu] at hy2;obtain⟨z,hz,hy2⟩:=hy2;try(rw[zfF] at hz;subst hz))))
       all_goals exact zax
      ·split at hy2
       ·rename _∧_=>h59
        obtain⟨h59,hl3⟩:=h59
        rw[hl3] at hl2
        iterate 16 (all_goals try(first|split at hy2|(rw[zfu] at hy2;obtain⟨z,hz,hy2⟩:=hy2;try(rw[zfF] at hz;subst hz))))
        all_goals(first|(obtain rfl:=Option.some.inj hy2)|(replace hy2:=Lib.hid hy2))
        iterate 2 (all_goals try(rename _∧_=>ho;obtain⟨_,_⟩:=ho))
        iterate 7 (all_goals try(rename _∨_=>ho;rcases ho with ho|ho))
        all_goals(repeat (rename ¬ (_∨_)=>ho;rw[not_or] at ho;obtain⟨_,_⟩:=ho))
        all_goals go_wp2_with (first
   |(go_at_call 62;first|(refine(zfE ‹_›).mono ?_;rintro e w' ⟨rfl,rfl⟩)|(refine(zfD ‹_›).mono ?_;rintro e w' ⟨⟨v,rfl⟩,rfl⟩))
   |(go_at_call 160;first|(refine((ih _ ?hk).operand _ _ _ _ _ ‹_› ‹_›).mono ?_;(case hk=>omega);rintro e w' ⟨v,rfl,hat⟩)|(refine(zgG HCL _ _ _ _ _ _ ‹_›).mono ?_;rintro e w' ⟨v,rfl,hat⟩);have hc8:=zft _ _ _ _ hat;first|rw[zfw] at hc8|rw[zfv] at hc8|skip)
   |(go_at_call 161;first|(refine((ih _ ?hk).period _ _ _ _ _ _ _ ‹_› zev ‹_›).mono ?_;(case hk=>omega);rintro e w' ⟨v,rfl,hat⟩)|(refine(zhp HCL _ _ _ _ _ _ _ ‹_›).mono ?_;rintro e w' ⟨v,rfl,hat⟩);have hc8:=zft _ _ _ _ hat;first|rw[zfw] at hc8|rw[zfv] at hc8|skip)
   |(go_at_call 162;first|(refine((ih _ ?hk).index _ _ _ _ _ _ _ ‹_› zev ‹_›).mono ?_;(case hk=>omega);rintro e w' ⟨v,rfl,hat⟩)|(refine(zhM HCL _ _ _ _ _ _ _ ‹_›).mono ?_;rintro e w' ⟨v,rfl,hat⟩);have hc8:=zft _ _ _ _ hat;first|rw[zfw] at hc8|rw[zfv] at hc8|skip)
   |(go_at_call 163;first|(refine((ih _ ?hk).call _ _ _ _ _ _ _ ‹_› zev ‹_›).mono ?_;(case hk=>omega);rintro e w' ⟨v,rfl,hat⟩)|(refine(zih HCL _ _ _ _ _ _ _ ‹_›).mono ?_;rintro e w' ⟨v,rfl,hat⟩);have hc8:=zft _ _ _ _ hat;first|rw[zfw] at hc8|rw[zfv] at hc8|skip)
   |(go_at_call 165;first|(refine((ih _ ?hk).values _ _ _ _ _ ‹_› ‹_›).mono ?_;(case hk=>omega);rintro e w' ⟨v,rfl,hat⟩)|(refine(zhb HCL _ _ _ _ _ _ ‹_›).mono ?_;rintro e w' ⟨v,rfl,hat⟩);have hc8:=zft _ _ _ _ hat;first|rw[zfw] at hc8|rw[zfv] at hc8|skip)
   |(go_at_call 38;refine(HCL _ _ _ _ _ _ _ _ ‹_› zev zew).mono ?_;rintro e w' ⟨v,rfl,hat⟩;have hc8:=zft _ _ _ _ hat;first|rw[zfw] at hc8|rw[zfv] at hc8|skip)
   |(go_at_call 95;first|(with_reducible refine(zfC ‹_› ?hc).mono ?_;(case hc=>simp [Res.comes, *]);rintro e w' ⟨rfl,hat⟩)|(with_reducible refine(zfz ‹_› ?hc).mono ?_;(case hc=>simp [Res.comes, *]);rintro e w' ⟨rfl,hat⟩);have hc8:=zft _ _ _ _ hat;first|rw[zfw] at hc8|rw[zfv] at hc8|skip)
   |(go_at_call 106;refine(zgx ‹_› _).mono ?_;rintro e w' ⟨n',rfl,hat,hti⟩;have hc8:=zft _ _ _ _ hat;first|rw[zfw] at hc8|rw[zfv] at hc8|skip)
   |(go_at_call 164;refine(zhd _ ‹_›).mono ?_;rintro e w2 ⟨rfl,hb2⟩;have hat:=At.below ‹_› hb2;have hc8:=zft _ _ _ _ hat;first|rw[zfw] at hc8|rw[zfv] at hc8|skip))
        all_goals exact zbY
       ·rename ¬ (_∧_)=>h59
        obtain rfl:=Option.some.inj hy2
        clear hy2
        by_cases h59':(Res.ok s').kind=59
        ·have hl3:lt=false:=by
          cases lt with
          |false=>rfl
          |true=>exact absurd ⟨h59',rfl⟩ h59
         rw[hl3] at hl2
         clear h59
         go_wp2_with (first|(go_at_call 62;first|(refine(zfE ‹_›).mono ?_;rintro e w' ⟨rfl,rfl⟩)|(refine(zfD ‹_›).mono ?_;rintro e w' ⟨⟨v,rfl⟩,rfl⟩))|(go_at_call 160;first|(refine((ih _ ?hk).operand _ _ _ _ _ ‹_› ‹_›).mono ?_;(case hk=>omega);rintro e w' ⟨v,rfl,hat⟩)|(refine(zgG HCL _ _ _ _ _ _ ‹_›).mono ?_;rintro e w' ⟨v,rfl,hat⟩);have hc8:=zft _ _ _ _ hat;first|rw[zfw] at hc8|rw[zfv] at hc8|skip)|(go_at_call 161;first|(refine((ih _ ?hk).period _ _ _ _ _ _ _ ‹_› zev ‹_›).mono ?_;(case hk=>omega);rintro e w' ⟨v,rfl,hat⟩)|(refine(zhp HCL _ _ _ _ _ _ _ ‹_›).mono ?_;rintro e w' ⟨v,rfl,hat⟩);have hc8:=zft _ _ _ _ hat;first|rw[zfw] at hc8|rw[zfv] at hc8|skip)|(go_at_call 162;first|(refine((ih _ ?hk).index _ _ _ _ _ _ _ ‹_› zev ‹_›).mono ?_;(case hk=>omega);rintro e w' ⟨v,rfl,hat⟩)|(refine(zhM HCL _ _ _ _ _ _ _ ‹_›).mono ?_;rintro e w' ⟨v,rfl,hat⟩);have hc8:=zft _ _ _ _ hat;first|rw[zfw] at hc8|rw[zfv] at hc8|skip)|(go_at_call 163;first|(refine((ih _ ?hk).call _ _ _ _ _ _ _ ‹_› zev ‹_›).mono ?_;(case hk=>omega);rintro e w' ⟨v,rfl,hat⟩)|(refine(zih HCL _ _ _ _ _ _ _ ‹_›).mono ?_;rintro e w' ⟨v,rfl,hat⟩);have hc8:=zft _ _ _ _ hat;first|rw[zfw] at hc8|rw[zfv] at hc8|skip)|(go_at_call 165;first|(refine((ih _ ?hk).values _ _ _ _ _ ‹_› ‹_›).mono ?_;(case hk=>omega);rintro e w' ⟨v,rfl,hat⟩)|(refine(zhb HCL _ _ _ _ _ _ ‹_›).mono ?_;rintro e w' ⟨v,rfl,hat⟩);have hc8:=zft _ _ _ _ hat;first|rw[zfw] at hc8|rw[zfv] at hc8|skip)|(go_at_call 38;refine(HCL _ _ _ _ _ _ _ _ ‹_› zev zew).mono ?_;rintro e w' ⟨v,rfl,hat⟩;have hc8:=zft _ _ _ _ hat;first|rw[zfw] at hc8|rw[zfv] at hc8|skip)|(go_at_call 95;first|(with_reducible refine(zfC ‹_› ?hc).mono ?_;(case hc=>simp [Res.comes, *]);rintro e w' ⟨rfl,hat⟩)|(with_reducible refine(zfz ‹_› ?hc).mono ?_;(case hc=>simp [Res.comes, *]);rintro e w' ⟨rfl,hat⟩);have hc8:=zft _ _ _ _ hat;first|rw[zfw] at hc8|rw[zfv] at hc8|skip)|(go_at_call 106;refine(zgx ‹_› _).mono ?_;rintro e w' ⟨n',rfl,hat,hti⟩;have hc8:=zft _ _ _ _ hat;first|rw[zfw] at hc8|rw[zfv] at hc8|skip)|(go_at_call 164;refine(zhd _ ‹_›).mono ?_;rintro e w2 ⟨rfl,hb2⟩;have hat:=At.below ‹_› hb2;have hc8:=zft _ _ _ _ hat;first|rw[zfw] at hc8|rw[zfv] at hc8|skip)|(go_at_call 61;first|(refine(zfS ‹_›).mono ?_;rintro e w' ⟨rfl,rfl⟩)|(refine(zfQ ‹_›).mono ?_;rintro e w' ⟨⟨v,_,rfl⟩,rfl⟩))|(go_at_call 57;first|(refine(zfI ‹_› ‹_›).mono ?_;rintro e w' ⟨rfl,hat⟩)|(refine(zfH ‹_›).mono ?_;rintro e w' ⟨rfl,hat⟩))|(go_at_call 113;first|(refine((ih _ ?hk).unary _ _ _ _ _ _ ‹_› ‹_›).mono ?_;(case hk=>omega);rintro e w' ⟨v,rfl,hat⟩)|(refine(zhk _ _ _ _ _ _ _ ‹_›).mono ?_;rintro e w' ⟨v,rfl,hat⟩))|(go_at_call 31;refine(zfZ ‹_› zeu).mono ?_;rintro e w' ⟨v,rfl,hat⟩)|(go_at_call 71;first|(refine((ih _ ?hk).binary _ _ _ _ _ _ _ ‹_› ‹_›).mono ?_;(case hk=>omega);rintro e w' ⟨v,rfl,hat⟩)|(refine(zhD _ _ _ _ _ _ _ _ ‹_›).mono ?_;rintro e w' ⟨v,rfl,hat⟩))|(go_at_call 37;refine(zfP _ _ _ _ _ _ _ _ ‹_› zev zez zeu).mono ?_;rintro e w' ⟨v,rfl,hat⟩)|(go_at_call 114;refine(zhX _ _).mono ?_;rintro e w' ⟨rfl,rfl⟩)|(go_at_call 33;refine(zfO ‹_› _ zeu).mono ?_;rintro e w' ⟨rfl,hat⟩)|(go_at_call 177;first|(refine(ziw ‹_› ‹_› ‹_› (fun j hj=>ih j zdC)).mono ?_;rintro e w' ⟨v,rfl,hat⟩)|(refine(zhy _ _ _ _ _ _ ‹_›).mono ?_;rintro e w' ⟨v,rfl,hat⟩))|(go_at_call 83;first|(refine(zfX ‹_› ‹_› zeu).mono ?_;rintro e w' ⟨rfl,hat⟩)|(refine(zgb ‹_› ?hno).mono ?_;(case hno=>first|assumption|rfl|simp [*]);rintro e w' ⟨rfl,hat⟩)))
         all_goals exact zbY
        ·clear h59
         go_wp2_with (first
   |(go_at_call 62;first|(refine(zfE ‹_›).mono ?_;rintro e w' ⟨rfl,rfl⟩)|(refine(zfD ‹_›).mono ?_;rintro e w' ⟨⟨v,rfl⟩,rfl⟩))
   |(go_at_call 160;first|(refine((ih _ ?hk).operand _ _ _ _ _ ‹_› ‹_›).mono ?_;(case hk=>omega);rintro e w' ⟨v,rfl,hat⟩)|(refine(zgG HCL _ _ _ _ _ _ ‹_›).mono ?_;rintro e w' ⟨v,rfl,hat⟩);have hc8:=zft _ _ _ _ hat;first|rw[zfw] at hc8|rw[zfv] at hc8|skip)
   |(go_at_call 161;first|(refine((ih _ ?hk).period _ _ _ _ _ _ _ ‹_› zev ‹_›).mono ?_;(case hk=>omega);rintro e w' ⟨v,rfl,hat⟩)|(refine(zhp HCL _ _ _ _ _ _ _ ‹_›).mono ?_;rintro e w' ⟨v,rfl,hat⟩);have hc8:=zft _ _ _ _ hat;first|rw[zfw] at hc8|rw[zfv] at hc8|skip)
   |(go_at_call 162;first|(refine((ih _ ?hk).index _ _ _ _ _ _ _ ‹_› zev ‹_›).mono ?_;(case hk=>omega);rintro e w' ⟨v,rfl,hat⟩)|(refine(zhM HCL _ _ _ _ _ _ _ ‹_›).mono ?_;rintro e w' ⟨v,rfl,hat⟩);have hc8:=zft _ _ _ _ hat;first|rw[zfw] at hc8|rw[zfv] at hc8|skip)
   |(go_at_call 163;first|(refine((ih _ ?hk).call _ _ _ _ _ _ _ ‹_› zev ‹_›).mono ?_;(case hk=>omega);rintro e w' ⟨v,rfl,hat⟩)|(refine(zih HCL _ _ _ _ _ _ _ ‹_›).mono ?_;rintro e w' ⟨v,rfl,hat⟩);have hc8:=zft _ _ _ _ hat;first|rw[zfw] at hc8|rw[zfv] at hc8|skip)
   |(go_at_call 165;first|(refine((ih _ ?hk).values _ _ _ _ _ ‹_› ‹_›).mono ?_;(case hk=>omega);rintro e w' ⟨v,rfl,hat⟩)|(refine(zhb HCL _ _ _ _ _ _ ‹_›).mono ?_;rintro e w' ⟨v,rfl,hat⟩);have hc8:=zft _ _ _ _ hat;first|rw[zfw] at hc8|rw[zfv] at hc8|skip)
   |(go_at_call 38;refine(HCL _ _ _ _ _ _ _ _ ‹_› zev zew).mono ?_;rintro e w' ⟨v,rfl,hat⟩;have hc8:=zft _ _ _ _ hat;first|rw[zfw] at hc8|rw[zfv] at hc8|skip)
   |(go_at_call 95;first|(with_reducible refine(zfC ‹_› ?hc).mono ?_;(case hc=>simp [Res.comes, *]);rintro e w' ⟨rfl,hat⟩)|(with_reducible refine(zfz ‹_› ?hc).mono ?_;(case hc=>simp [Res.comes, *]);rintro e w' ⟨rfl,hat⟩);have hc8:=zft _ _ _ _ hat;first|rw[zfw] at hc8|rw[zfv] at hc8|skip)
   |(go_at_call 106;refine(zgx ‹_› _).mono ?_;rintro e w' ⟨n',rfl,hat,hti⟩;have hc8:=zft _ _ _ _ hat;first|rw[zfw] at hc8|rw[zfv] at hc8|skip)
   |(go_at_call 164;refine(zhd _ ‹_›).mono ?_;rintro e w2 ⟨rfl,hb2⟩;have hat:=At.below ‹_› hb2;have hc8:=zft _ _ _ _ hat;first|rw[zfw] at hc8|rw[zfv] at hc8|skip))
         all_goals exact zay
open Go.RowKit
open Go.RowKit
def Lu (C:Keep) (b:Nat) (y x0 z0:Res) (n:Nat) (p:Value) (w:World) (k:Nat):Prop:=∃ (c:Nat) (x z:Res),p=.int .i64 (c:Int)∧c+k≤n∧Hid (At C w b x)∧Hid (run k .term x=some z)∧Hid (run k .unionL z=some y)∧(c=0→(z.kind == 26)=(z0.kind == 26)∧(x.kind == 51)=(x0.kind == 51))∧(c≠0→(z0.kind == 26)=true)
noncomputable def luOf (C:Keep) (b:Nat) (y x0 z0:Res) (n:Nat) (p:Value) (w:World):Nat:=least (Lu C b y x0 z0 n p w)
theorem Lu.least {C:Keep} {b n k:Nat} {y x0 z0:Res} {p:Value} {w:World} (h:Lu C b y x0 z0 n p w k):Lu C b y x0 z0 n p w (luOf C b y x0 z0 n p w)∧luOf C b y x0 z0 n p w≤k:=zgc h
theorem zwK {n:Nat} (HCL:CloseC) (ih:∀ k,k≤n→All k) (hn:n≤1099511627776):CUni 108 (n+1):=by
 have _:=HCL
 have _:=ih
 intro C w b x0 z0 y hat hz hy
 go_enter Tryz.func108,Tryz.ntmps108
 go_wp2_with fail
 go_loopw [4] (fun p wr=>∃ k,Lu C b y x0 z0 (n+1) p wr k) (fun p wr=>luOf C b y x0 z0 (n+1) p wr)
 case atStart=>exact⟨n+1,0,x0,z0,rfl,by omega,hat,hz,hy,fun _=>⟨rfl,rfl⟩,fun e=>absurd rfl e⟩
 case round=>
  clear hat hz hy
  obtain⟨k0,hlu⟩:=hrel
  obtain⟨c,x,z,rfl,hck,hat,hz,hy,hi0,hi1⟩:=(hlu.least).1
  obtain⟨q,hq⟩:∃ q,luOf C b y x0 z0 (n+1) (.int .i64 (c:Int)) wr=q:=⟨_,rfl⟩
  rw[hq] at hck hz hy
  have HQ:=Lib.hid hq
  have HI:=Lib.hid (And.intro hi0 hi1)
  clear hlu hq hi0 hi1
  have hz:=hz.out
  have hy:=hy.out
  cases x with
  |fail d0 d1 d2=>
   rw[zfB] at hz
   obtain rfl:=Option.some.inj hz
   rw[zfB] at hy
   obtain rfl:=Option.some.inj hy
   have hk0:(Res.fail d0 d1 d2).kind=0:=rfl
   clear hz hy
   go_wp2_with (first|(go_at_call 62;first|(refine(zfE ‹_›).mono ?_;rintro e w' ⟨rfl,rfl⟩)|(refine(zfD ‹_›).mono ?_;rintro e w' ⟨⟨v,rfl⟩,rfl⟩))|(go_at_call 32;refine(zfK ‹_› zew).mono ?_;rintro e w' ⟨v,rfl,hat⟩)|(go_at_call 51;first|(refine((ih _ ?hk).type _ _ _ _ _ ‹_› ‹_›).mono ?_;(case hk=>omega);rintro e w' ⟨v,rfl,hat⟩)|(refine(zgo HCL _ _ _ _ _ _ ‹_›).mono ?_;rintro e w' ⟨v,rfl,hat⟩))|(go_at_call 38;refine(HCL _ _ _ _ _ _ _ _ ‹_› zev zew).mono ?_;rintro e w' ⟨v,rfl,hat⟩)|(go_at_call 95;first|(with_reducible refine(zfC ‹_› ?hc).mono ?_;(case hc=>simp [Res.comes, *]);rintro e w' ⟨rfl,hat⟩)|(with_reducible refine(zfz ‹_› ?hc).mono ?_;(case hc=>simp [Res.comes, *]);rintro e w' ⟨rfl,hat⟩)))
   go_ret2
   exact⟨_,_,rfl,by assumption,fun e=>by cases e⟩
  |ok s=>
   cases q with
   |zero=>exact absurd hz zeC
   |succ k=>
    rw[run] at hz
    try dsimp only at hz
    have fin:∀ (t:Bool) (w':World),t=((Res.ok s).kind == 51)→(z.kind == 26)=false→Hid (At C w' b z)→z=y→(∃ (c':Int) (t':Bool),Ending.returned (.tuple #[.int .i64 ((c:Int)+1),.bool t])=.returned (.tuple #[.int .i64 c',.bool t'])∧Hid (At C w' b y)∧(y.bad=false→(decide (1<c') || t')=(z0.kind == 26 || x0.kind == 51))):=fun t w' ht hzk ha e=>by
     subst e
     refine⟨_,_,rfl,ha,fun _=>?_⟩
     rcases Nat.eq_zero_or_pos c with h|h
     ·subst h
      obtain⟨a1,a2⟩:=HI.out.1 rfl
      rw[← a1,hzk,← a2,ht]
      rfl
     ·rw[HI.out.2 zdC,decide_eq_true (show 1<(c:Int)+1 by omega)]
      rfl
    have FN:=Lib.hid fin
    have again:∀ (u z2:Res) (w':World),(z.kind == 26)=true→Hid (At C w' b u)→Hid (run k .term u=some z2)→Hid (run k .unionL z2=some y)→(∃ k0,Lu C b y x0 z0 (n+1) (.int .i64 ((c:Int)+1)) w' k0)∧luOf C b y x0 z0 (n+1) (.int .i64 ((c:Int)+1)) w'<luOf C b y x0 z0 (n+1) (.int .i64 (c:Int)) wr:=fun u z2 w' hzk ha h1 h2=>by
     have hl:Lu C b y x0 z0 (n+1) (.int .i64 ((c:Int)+1)) w' k:=⟨c+1,u,z2,by go_num,by omega,ha,h1,h2,fun e=>absurd e zdC,fun _=>by
      rcases Nat.eq_zero_or_pos c with h|h
      ·rw[← (HI.out.1 h).1];exact hzk
      ·exact HI.out.2 zdC⟩
     refine⟨⟨k,hl⟩,?_⟩
     rw[HQ.out]
     have:=hl.least.2
     omega
    have AG:=Lib.hid again
    clear fin again
    have hzz:∀ d0 d1 d2,z=.fail d0 d1 d2→y=.fail d0 d1 d2:=fun d0 d1 d2 e=>by
     rw[e,zfB] at hy
     exact(Option.some.inj hy).symm
    have hyy:∀ s',z=.ok s'→((z.kind=26∧∃ u,Hid (rTake z=some u)∧∃ z2,Hid (run k .term u=some z2)∧Hid (run k .unionL z2=some y))∨(z.kind≠26∧z=y)):=fun s' e=>by
     rw[e,run] at hy
     try dsimp only at hy
     rw[e]
     split at hy
     ·rename_i h26
      rw[zfu] at hy
      obtain⟨u,hu,hy⟩:=hy
      rw[zfu] at hy
      obtain⟨z2,hz2,hy⟩:=hy
      exact .inl ⟨h26,u,hu,z2,hz2,Lib.hid hy⟩
     ·exact .inr ⟨by assumption,Option.some.inj hy⟩
    clear hy
    by_cases h51:(Res.ok s).kind=51
    ·have e51:true=((Res.ok s).kind == 51):=(beq_iff_eq.2 h51).symm
     have E51:=Lib.hid e51
     clear e51
     rw[if_pos h51] at hz
     rw[zfu] at hz
     obtain⟨z1,hz1,hz⟩:=hz
     rw[zfu] at hz
     obtain⟨z2,hz2,hz⟩:=hz
     exact zaG
    ·have e51:false=((Res.ok s).kind == 51):=(beq_eq_false_iff_ne.2 h51).symm
     have E51:=Lib.hid e51
     clear e51
     rw[if_neg h51] at hz
     exact zaG
open Go.RowKit
def Lt (C:Keep) (b:Nat) (z:Res) (p:Value) (w:World) (k:Nat):Prop:=∃ (f:Bool) (x:Res),p=.bool f∧Hid (At C w b x)∧((f=false∧x.kind=63∧x=z∧k=0)∨((f=false→x.kind≠63)∧Hid (run k .tpL x=some z)))
noncomputable def ltOf (C:Keep) (b:Nat) (z:Res) (p:Value) (w:World):Nat:=least (Lt C b z p w)
theorem Lt.least {C:Keep} {b k:Nat} {z:Res} {p:Value} {w:World} (h:Lt C b z p w k):Lt C b z p w (ltOf C b z p w)∧ltOf C b z p w≤k:=zgc h
end Go.Proofs.YtcekbbkidipbnaaGreat.rd
