/-
  Texts put together: Fo, Fq, Fu.
-/
import Derived.Test.YtmelbeefjgjdhaaGreatP5
set_option maxRecDepth 100000
set_option maxHeartbeats 8000000
namespace Go.Proofs.YtmelbeefjgjdhaaGreat.rd
open Go.RowKit
def TieB (w:World) (t:Tree) (n:Rn):Prop:=∃ D,Tie w D t n∧∀ k,D k→k<w.heap.size
theorem TieB.below {w w':World} {t:Tree} {n:Rn} (h:Hid (TieB w t n)) (hb:Below w.heap.size w w'):Hid (TieB w' t n):=by
 obtain⟨D,h1,h2⟩:=h.out
 exact Lib.hid ⟨D,Tie.keep (fun g hg=>hb.block g (h2 g hg)) (fun _ h=>h) t n h1,fun k hk=>Nat.lt_of_lt_of_le (h2 k hk) hb.size⟩
theorem ties_head {w:World} {D:Nat→Prop}:∀ {l:List Tree} {R:List Rn},Ties w D l R→Tie w D (headT l) (headSig R)
 |[],R,h=>by rw[Ties] at h;subst h;exact tie_none _ _ _ _ _
 |t::l,R,h=>by
  rw[Ties] at h
  obtain⟨n,R',rfl,h3,h4⟩:=h
  rw[headT,headSig,h3.k]
  split
  ·exact h3
  ·exact ties_head h4
theorem ties_part {w:World} {D:Nat→Prop}:∀ {l:List Tree} {R:List Rn},Ties w D l R→Tie w D (partT l) (headPart R)
 |[],R,h=>by rw[Ties] at h;subst h;exact tie_none _ _ _ _ _
 |t::l,R,h=>by
  rw[Ties] at h
  obtain⟨n,R',rfl,h3,h4⟩:=h
  rw[partT,headPart,h3.k]
  split
  ·exact h3
  ·exact ties_part h4
theorem Tie.kids {w:World} {D:Nat→Prop} {t:Tree} {n:Rn} (h:Tie w D t n):∃ R,Row nd w (.slice n.o n.n n.c) R∧R.length≤1099511627776∧Ties w D t.l R:=by
 obtain⟨k,i,j,l⟩:=t
 rw[Tie] at h
 obtain⟨_,_,_,h4,g,off,R,⟨h5,h5'⟩,h6,h7,h8⟩:=h
 have hl:=h8.length
 refine⟨R,⟨g,off,n.o,n.c,by omega,by rw[hl,← h4],fun e=>(h6 (fun e2=>e (List.eq_nil_of_length_eq_zero (by rw[hl,e2];rfl)))).1,h7⟩,by omega,h8⟩
section
variable {C:Keep} {w:World} {b:Nat} {x y:Res}
theorem At.below (h:Hid (At C w b x)) {w':World} (hb:Below w.heap.size w w'):Hid (At C w' b x):=by
 obtain⟨vL,vR,vH,σ,D,hr,ho,hi⟩:=h.out
 have hn:Nx w b vR vH w' vR vH:=Nx.below hb
 refine Lib.hid ⟨vL,vR,vH,σ,D,hr.below hb,ho.step hn,?_⟩
 cases x with
 |fail=>exact hi
 |ok s=>
  obtain⟨h1,h2,h3,h4,h5⟩:=hi
  exact⟨h1,h2,h3,ho.ties hn h4,h5⟩
theorem last_at {s:St} (h:Hid (At C w b (.ok s))) (m:Nat):Calls Tryz.prog 106 #[.pointer (some ⟨b,0,none⟩),.int .i64 (m:Int)] w fun e w'=>∃ n:Rn,e=.returned n.v∧Hid (At C w' b (.ok s))∧Hid (TieB w' (headT (s.R.drop m)) n):=by
 obtain⟨vL,vR,vH,σ,D,hr,ho,hi⟩:=h.out
 have hi':=hi
 obtain⟨h1,h2,h3,h4,h5,h6,h7,h8,h9,h10⟩:=hi
 have hlen:=h4.length
 refine(lastNode_any hr m (by omega)).mono ?_
 rintro e w' ⟨rfl,hb⟩
 refine⟨_,rfl,At.below h hb,TieB.below (Lib.hid ⟨D,ties_head (h4.drop m),fun k hk=>(ho.dead k hk).1⟩) hb⟩
theorem part_at {t:Tree} {n:Rn} (h:Hid (TieB w t n)):Calls Tryz.prog 181 #[n.v] w fun e w'=>∃ n':Rn,e=.returned n'.v∧Below w.heap.size w w'∧Hid (TieB w' (partT t.l) n'):=by
 obtain⟨D,h1,h2⟩:=h.out
 obtain⟨R,hr,hl,ht⟩:=h1.kids
 refine(part_any n R hr hl).mono ?_
 rintro e w' ⟨rfl,hb⟩
 exact⟨_,rfl,hb,TieB.below (Lib.hid ⟨D,ties_part ht,h2⟩) hb⟩
end
theorem TieB.k {w:World} {t:Tree} {n:Rn} (h:Hid (TieB w t n)):n.k=t.k:=by obtain⟨D,h1,_⟩:=h.out;exact h1.k
theorem named_at {w:World} {t:Tree} {n:Rn} (h:Hid (TieB w t n)):Calls Tryz.prog 180 #[n.v] w fun e w'=>e=.returned (.bool (namedT t))∧Below w.heap.size w w':=by
 have hk:=TieB.k h
 have HP:Hid (∀ u,Below w.heap.size w u→Calls Tryz.prog 181 #[n.v] u fun e w'=>∃ n':Rn,e=.returned n'.v∧Below w.heap.size w w'∧Hid (TieB w' (partT t.l) n')):=Lib.hid (fun u hu=>(part_at (TieB.below h hu)).mono (by rintro e w' ⟨n',h1,h2,h3⟩;exact⟨n',h1,hu.trans (h2.mono hu.size),h3⟩))
 obtain⟨k,i,j,o,m,c⟩:=n
 rw[show(Rn.mk k i j o m c).v=.agg #[.int .i64 k,.int .i64 i,.int .i64 j,.slice o m c] from rfl] at *
 simp only[] at hk
 have HR:Hid (namedT t=(t.k == 201 || (t.k == 207 && (partT t.l).k == 201))):=Lib.hid rfl
 rw[← hk] at HR
 generalize namedT t=res at *
 clear hk h
 by_cases h1:k=201
 ·subst h1
  have hr:Hid (res=true):=Lib.hid (by rw[HR.out];rfl)
  go_enter Tryz.func180,Tryz.ntmps180
  go_wp2_with fail
  go_ret
  exact⟨by rw[hr.out];rfl,(Below.refl _ _).alloc (Nat.le_refl _) _⟩
 ·have e1:(k == 201)=false:=beq_eq_false_iff_ne.2 h1
  rw[e1,Bool.false_or] at HR
  by_cases h2:k=207
  ·subst h2
   rw[show((207:Int) == 207)=true from rfl,Bool.true_and] at HR
   clear h1
   go_enter Tryz.func180,Tryz.ntmps180
   go_wp2_with (go_at_call 181;refine(HP.out _ ?_).mono ?_;(first|exact Below.refl _ _|exact(Below.refl _ _).alloc (Nat.le_refl _) _);rintro e w' ⟨⟨k',i',j',o',m',c'⟩,rfl,hb,ht⟩;have hk':k'=(partT t.l).k:=TieB.k ht;rw[← hk'] at HR;clear hk';rw[show(Rn.mk k' i' j' o' m' c').v=.agg #[.int .i64 k',.int .i64 i',.int .i64 j',.slice o' m' c'] from rfl] at *;have hfd:∀ u:World,(Instr.field 43 (.agg #[.int .i64 k',.int .i64 i',.int .i64 j',.slice o' m' c']) 0).run Tryz.prog u=.ok (.int .i64 k') u:=fun _=>by kernel_rfl)
   all_goals go_ret
   all_goals exact⟨by rw[HR.out];rfl,hb⟩
  ·have e2:(k == 207)=false:=beq_eq_false_iff_ne.2 h2
   rw[e2,Bool.false_and] at HR
   clear h1 h2
   go_enter Tryz.func180,Tryz.ntmps180
   go_wp2_with fail
   go_ret
   exact⟨by rw[HR.out];rfl,(Below.refl _ _).alloc (Nat.le_refl _) _⟩
theorem box_at {w w':World} {k i j:Int} {o:Option Addr} {m c:Nat} {e:TypeId} (hb:Below (w.alloc (.cells #[.int .i64 k,.int .i64 i,.int .i64 j,.slice o m c] e)).heap.size (w.alloc (.cells #[.int .i64 k,.int .i64 i,.int .i64 j,.slice o m c] e)) w') :
  w'.cell? ⟨w.heap.size,0,none⟩=some (.int .i64 k)∧w'.cell? ⟨w.heap.size,1,none⟩=some (.int .i64 i)∧w'.cell? ⟨w.heap.size,2,none⟩=some (.int .i64 j)∧w'.cell? ⟨w.heap.size,3,none⟩=some (.slice o m c):=by
 have hh:=heap_alloc_last w (.cells #[.int .i64 k,.int .i64 i,.int .i64 j,.slice o m c] e)
 have hz:w.heap.size<(w.alloc (.cells #[.int .i64 k,.int .i64 i,.int .i64 j,.slice o m c] e)).heap.size:=by rw[World.size_alloc];omega
 refine⟨(hb.cell (p:=⟨w.heap.size,0,none⟩) hz).trans ?_,(hb.cell (p:=⟨w.heap.size,1,none⟩) hz).trans ?_,(hb.cell (p:=⟨w.heap.size,2,none⟩) hz).trans ?_,(hb.cell (p:=⟨w.heap.size,3,none⟩) hz).trans ?_⟩
 ·rw[cell_of_row _ _ 0 _ _ _ hh];rfl
 ·rw[cell_of_row _ _ 1 _ _ _ hh];rfl
 ·rw[cell_of_row _ _ 2 _ _ _ hh];rfl
 ·rw[cell_of_row _ _ 3 _ _ _ hh];rfl
theorem literal_any {w:World} {t:Tree} {n:Rn} (hd:Bool) (h:Hid (TieB w t n)):Calls Tryz.prog 164 #[n.v,.bool hd] w fun e w'=>e=.returned (.bool (literalT t hd))∧Below w.heap.size w w':=by
 have hk:=TieB.k h
 have HP:Hid (∀ u,Below w.heap.size w u→Calls Tryz.prog 181 #[n.v] u fun e w'=>∃ n':Rn,e=.returned n'.v∧Below w.heap.size w w'∧Hid (TieB w' (partT t.l) n')):=Lib.hid (fun u hu=>(part_at (TieB.below h hu)).mono (by rintro e w' ⟨n',h1,h2,h3⟩;exact⟨n',h1,hu.trans (h2.mono hu.size),h3⟩))
 have HN:Hid (∀ u,Below w.heap.size w u→Calls Tryz.prog 180 #[n.v] u fun e w'=>e=.returned (.bool (namedT t))∧Below w.heap.size w w'∧Below u.heap.size u w'):=Lib.hid (fun u hu=>(named_at (TieB.below h hu)).mono (by rintro e w' ⟨h1,h2⟩;exact⟨h1,hu.trans (h2.mono hu.size),h2⟩))
 obtain⟨k,i,j,o,m,c⟩:=n
 rw[show(Rn.mk k i j o m c).v=.agg #[.int .i64 k,.int .i64 i,.int .i64 j,.slice o m c] from rfl] at *
 simp only[] at hk
 have HR:Hid (literalT t hd=(t.k == 220 || t.k == 221 || t.k == 222 || t.k == 224 || (!hd && (namedT t || (t.k == 208 && namedT (partT t.l)))))):=Lib.hid rfl
 rw[← hk] at HR
 generalize literalT t hd=res at *
 clear hk h
 by_cases h0:k=220∨k=221∨k=222∨k=224
 ·have hr:Hid (res=true):=Lib.hid (by rw[HR.out];rcases h0 with rfl|rfl|rfl|rfl <;> rfl)
  clear HP HN HR
  rcases h0 with rfl|rfl|rfl|rfl
  all_goals
   go_enter Tryz.func164,Tryz.ntmps164
   go_wp2_with fail
   go_ret
   exact⟨by rw[hr.out];rfl,(Below.refl _ _).alloc (Nat.le_refl _) _⟩
 ·simp only[not_or] at h0
  obtain⟨a1,a2,a3,a4⟩:=h0
  have e1:(k == 220)=false:=beq_eq_false_iff_ne.2 a1
  have e2:(k == 221)=false:=beq_eq_false_iff_ne.2 a2
  have e3:(k == 222)=false:=beq_eq_false_iff_ne.2 a3
  have e4:(k == 224)=false:=beq_eq_false_iff_ne.2 a4
  rw[e1,e2,e3,e4,Bool.false_or,Bool.false_or,Bool.false_or,Bool.false_or] at HR
  clear a1 a2 a3 a4
  cases hd with
  |true=>
   go_enter Tryz.func164,Tryz.ntmps164
   go_wp2_with fail
   go_ret
   exact⟨by rw[HR.out];rfl,(Below.refl _ _).alloc (Nat.le_refl _) _⟩
  |false=>
   rw[show(!false)=true from rfl,Bool.true_and] at HR
   cases hn:namedT t with
   |true=>
    rw[hn] at HR HN
    go_enter Tryz.func164,Tryz.ntmps164
    go_wp2_with (go_at_call 180;refine(HN.out _ ((Below.refl _ _).alloc (Nat.le_refl _) _)).mono ?_;rintro e w' ⟨rfl,hb,hb'⟩)
    go_ret
    exact⟨by rw[HR.out];rfl,hb⟩
   |false=>
    rw[hn,Bool.false_or] at HR
    rw[hn] at HN
    by_cases h8:k=208
    ·subst h8
     rw[show((208:Int) == 208)=true from rfl,Bool.true_and] at HR
     clear e1 e2 e3 e4 hn
     go_enter Tryz.func164,Tryz.ntmps164
     go_wp2_with (first|(go_at_call 180;refine(HN.out _ ((Below.refl _ _).alloc (Nat.le_refl _) _)).mono ?_;rintro e w' ⟨rfl,hb,hb'⟩;obtain⟨q0,q1,q2,q3⟩:=box_at hb';clear hb' HN)|(go_at_call 181;refine(HP.out _ hb).mono ?_;rintro e w'' ⟨⟨k',i',j',o',m',c'⟩,rfl,hb2,ht⟩;have HN2:=Lib.hid (named_at ht);rw[show(Rn.mk k' i' j' o' m' c').v=.agg #[.int .i64 k',.int .i64 i',.int .i64 j',.slice o' m' c'] from rfl] at *)|(go_at_call 180;refine HN2.out.mono ?_;rintro e w3 ⟨rfl,hb3⟩))
     all_goals go_ret
     all_goals exact⟨by rw[HR.out];rfl,hb2.trans (hb3.mono hb2.size)⟩
    ·have e5:(k == 208)=false:=beq_eq_false_iff_ne.2 h8
     rw[e5,Bool.false_and] at HR
     clear h8
     go_enter Tryz.func164,Tryz.ntmps164
     go_wp2_with (go_at_call 180;refine(HN.out _ ((Below.refl _ _).alloc (Nat.le_refl _) _)).mono ?_;rintro e w' ⟨rfl,hb,hb'⟩;obtain⟨q0,q1,q2,q3⟩:=box_at hb';clear hb' HN)
     all_goals go_ret
     all_goals exact⟨by rw[HR.out];rfl,hb⟩
open Go.RowKit
theorem primary_s {n:Nat} (HCL:CloseC) (ih:∀ k,k≤n→All k):CB 143 (n+1) .primary:=by
 have _:=HCL
 have _:=ih
 intro C w b x y h hat hy
 have hy:=hy.out
 cases x with
 |fail d0 d1 d2=>
  rw[run_fail] at hy
  obtain rfl:=Option.some.inj hy
  exact primary_f HCL _ _ _ _ _ _ _ hat
 |ok s=>
  rw[run] at hy
  try dsimp only at hy
  rw[bind_iff] at hy
  obtain⟨z1,hz1,hy⟩:=hy
  replace hy:=Lib.hid hy
  go_enter Tryz.func143,Tryz.ntmps143
  go_wp2_with (first|(go_at_call 62;first|(refine(mark_at ‹_›).mono ?_;rintro e w' ⟨rfl,rfl⟩)|(refine(mark_bad ‹_›).mono ?_;rintro e w' ⟨⟨v,rfl⟩,rfl⟩))|(go_at_call 160;first|(refine((ih _ ?hk).operand _ _ _ _ _ ‹_› ‹_›).mono ?_;(case hk=>omega);rintro e w' ⟨v,rfl,hat⟩)|(refine(operand_f HCL _ _ _ _ _ _ ‹_›).mono ?_;rintro e w' ⟨v,rfl,hat⟩);have hc8:=bad_cell _ _ _ _ hat;first|rw[bad_ok] at hc8|rw[bad_fail] at hc8|skip)|(go_at_call 161;first|(refine((ih _ ?hk).period _ _ _ _ _ _ _ ‹_› (by first|exact fun _=>rfl|assumption|exact fun hb=>by cases hb) ‹_›).mono ?_;(case hk=>omega);rintro e w' ⟨v,rfl,hat⟩)|(refine(period_f HCL _ _ _ _ _ _ _ ‹_›).mono ?_;rintro e w' ⟨v,rfl,hat⟩);have hc8:=bad_cell _ _ _ _ hat;first|rw[bad_ok] at hc8|rw[bad_fail] at hc8|skip)|(go_at_call 162;first|(refine((ih _ ?hk).index _ _ _ _ _ _ _ ‹_› (by first|exact fun _=>rfl|assumption|exact fun hb=>by cases hb) ‹_›).mono ?_;(case hk=>omega);rintro e w' ⟨v,rfl,hat⟩)|(refine(index_f HCL _ _ _ _ _ _ _ ‹_›).mono ?_;rintro e w' ⟨v,rfl,hat⟩);have hc8:=bad_cell _ _ _ _ hat;first|rw[bad_ok] at hc8|rw[bad_fail] at hc8|skip)|(go_at_call 163;first|(refine((ih _ ?hk).call _ _ _ _ _ _ _ ‹_› (by first|exact fun _=>rfl|assumption|exact fun hb=>by cases hb) ‹_›).mono ?_;(case hk=>omega);rintro e w' ⟨v,rfl,hat⟩)|(refine(call_f HCL _ _ _ _ _ _ _ ‹_›).mono ?_;rintro e w' ⟨v,rfl,hat⟩);have hc8:=bad_cell _ _ _ _ hat;first|rw[bad_ok] at hc8|rw[bad_fail] at hc8|skip)|(go_at_call 165;first|(refine((ih _ ?hk).values _ _ _ _ _ ‹_› ‹_›).mono ?_;(case hk=>omega);rintro e w' ⟨v,rfl,hat⟩)|(refine(values_f HCL _ _ _ _ _ _ ‹_›).mono ?_;rintro e w' ⟨v,rfl,hat⟩);have hc8:=bad_cell _ _ _ _ hat;first|rw[bad_ok] at hc8|rw[bad_fail] at hc8|skip)|(go_at_call 38;refine(HCL _ _ _ _ _ _ _ _ ‹_› (by first|exact fun _=>rfl|assumption|exact fun hb=>by cases hb) (by first|assumption|exact Lib.hid rfl|exact run_hid _ _ _ _ _)).mono ?_;rintro e w' ⟨v,rfl,hat⟩;have hc8:=bad_cell _ _ _ _ hat;first|rw[bad_ok] at hc8|rw[bad_fail] at hc8|skip)|(go_at_call 95;first|(with_reducible refine(comes1_yes ‹_› ?hc).mono ?_;(case hc=>simp [Res.comes, *]);rintro e w' ⟨rfl,hat⟩)|(with_reducible refine(comes1_no ‹_› ?hc).mono ?_;(case hc=>simp [Res.comes, *]);rintro e w' ⟨rfl,hat⟩);have hc8:=bad_cell _ _ _ _ hat;first|rw[bad_ok] at hc8|rw[bad_fail] at hc8|skip)|(go_at_call 106;refine(last_at ‹_› _).mono ?_;rintro e w' ⟨n',rfl,hat,hti⟩;have hc8:=bad_cell _ _ _ _ hat;first|rw[bad_ok] at hc8|rw[bad_fail] at hc8|skip)|(go_at_call 164;refine(literal_any _ ‹_›).mono ?_;rintro e w2 ⟨rfl,hb2⟩;have hat:=At.below ‹_› hb2;have hc8:=bad_cell _ _ _ _ hat;first|rw[bad_ok] at hc8|rw[bad_fail] at hc8|skip))
  go_loopw [] (fun wr=>Lq C b y (.primL h s.R.length) n wr) (fun wr=>lpOf C b y (.primL h s.R.length) wr)
  case atStart=>exact Lq.at ‹_› ‹_›
  case round=>
   rcases hrel.out with⟨d0,d1,d2,hu,hat⟩|⟨k,s',hk,hq,hat,hy'⟩
   ·subst hu
    have hk0:(Res.fail d0 d1 d2).kind=0:=rfl
    have hc8:=bad_cell _ _ _ _ hat
    rw[bad_fail] at hc8
    go_wp2_with (first|(go_at_call 62;first|(refine(mark_at ‹_›).mono ?_;rintro e w' ⟨rfl,rfl⟩)|(refine(mark_bad ‹_›).mono ?_;rintro e w' ⟨⟨v,rfl⟩,rfl⟩))|(go_at_call 160;first|(refine((ih _ ?hk).operand _ _ _ _ _ ‹_› ‹_›).mono ?_;(case hk=>omega);rintro e w' ⟨v,rfl,hat⟩)|(refine(operand_f HCL _ _ _ _ _ _ ‹_›).mono ?_;rintro e w' ⟨v,rfl,hat⟩);have hc8:=bad_cell _ _ _ _ hat;first|rw[bad_ok] at hc8|rw[bad_fail] at hc8|skip)|(go_at_call 161;first|(refine((ih _ ?hk).period _ _ _ _ _ _ _ ‹_› (by first|exact fun _=>rfl|assumption|exact fun hb=>by cases hb) ‹_›).mono ?_;(case hk=>omega);rintro e w' ⟨v,rfl,hat⟩)|(refine(period_f HCL _ _ _ _ _ _ _ ‹_›).mono ?_;rintro e w' ⟨v,rfl,hat⟩);have hc8:=bad_cell _ _ _ _ hat;first|rw[bad_ok] at hc8|rw[bad_fail] at hc8|skip)|(go_at_call 162;first|(refine((ih _ ?hk).index _ _ _ _ _ _ _ ‹_› (by first|exact fun _=>rfl|assumption|exact fun hb=>by cases hb) ‹_›).mono ?_;(case hk=>omega);rintro e w' ⟨v,rfl,hat⟩)|(refine(index_f HCL _ _ _ _ _ _ _ ‹_›).mono ?_;rintro e w' ⟨v,rfl,hat⟩);have hc8:=bad_cell _ _ _ _ hat;first|rw[bad_ok] at hc8|rw[bad_fail] at hc8|skip)|(go_at_call 163;first|(refine((ih _ ?hk).call _ _ _ _ _ _ _ ‹_› (by first|exact fun _=>rfl|assumption|exact fun hb=>by cases hb) ‹_›).mono ?_;(case hk=>omega);rintro e w' ⟨v,rfl,hat⟩)|(refine(call_f HCL _ _ _ _ _ _ _ ‹_›).mono ?_;rintro e w' ⟨v,rfl,hat⟩);have hc8:=bad_cell _ _ _ _ hat;first|rw[bad_ok] at hc8|rw[bad_fail] at hc8|skip)|(go_at_call 165;first|(refine((ih _ ?hk).values _ _ _ _ _ ‹_› ‹_›).mono ?_;(case hk=>omega);rintro e w' ⟨v,rfl,hat⟩)|(refine(values_f HCL _ _ _ _ _ _ ‹_›).mono ?_;rintro e w' ⟨v,rfl,hat⟩);have hc8:=bad_cell _ _ _ _ hat;first|rw[bad_ok] at hc8|rw[bad_fail] at hc8|skip)|(go_at_call 38;refine(HCL _ _ _ _ _ _ _ _ ‹_› (by first|exact fun _=>rfl|assumption|exact fun hb=>by cases hb) (by first|assumption|exact Lib.hid rfl|exact run_hid _ _ _ _ _)).mono ?_;rintro e w' ⟨v,rfl,hat⟩;have hc8:=bad_cell _ _ _ _ hat;first|rw[bad_ok] at hc8|rw[bad_fail] at hc8|skip)|(go_at_call 95;first|(with_reducible refine(comes1_yes ‹_› ?hc).mono ?_;(case hc=>simp [Res.comes, *]);rintro e w' ⟨rfl,hat⟩)|(with_reducible refine(comes1_no ‹_› ?hc).mono ?_;(case hc=>simp [Res.comes, *]);rintro e w' ⟨rfl,hat⟩);have hc8:=bad_cell _ _ _ _ hat;first|rw[bad_ok] at hc8|rw[bad_fail] at hc8|skip)|(go_at_call 106;refine(last_at ‹_› _).mono ?_;rintro e w' ⟨n',rfl,hat,hti⟩;have hc8:=bad_cell _ _ _ _ hat;first|rw[bad_ok] at hc8|rw[bad_fail] at hc8|skip)|(go_at_call 164;refine(literal_any _ ‹_›).mono ?_;rintro e w2 ⟨rfl,hb2⟩;have hat:=At.below ‹_› hb2;have hc8:=bad_cell _ _ _ _ hat;first|rw[bad_ok] at hc8|rw[bad_fail] at hc8|skip))
    all_goals(first|go_end0|go_ret)
    all_goals exact⟨_,rfl,by assumption⟩
   ·rw[run] at hy'
    try dsimp only at hy'
    have hc8:=bad_cell _ _ _ _ hat
    rw[bad_ok] at hc8
    have hlt:(Res.ok s').lit s.R.length h=literalT (headT (s'.R.drop s.R.length)) h:=rfl
    rw[hlt] at hy'
    obtain⟨lt,hl2⟩:∃ lt,literalT (headT (s'.R.drop s.R.length)) h=lt:=⟨_,rfl⟩
    rw[hl2] at hy'
    clear hlt
    have hy2:=hy'
    clear hy'
    split at hy2
    ·iterate 16 (all_goals try(first|split at hy2|(rw[bind_iff] at hy2;obtain⟨z,hz,hy2⟩:=hy2;try(rw[some_hid] at hz;subst hz))))
     all_goals(first|(obtain rfl:=Option.some.inj hy2)|(replace hy2:=Lib.hid hy2))
     iterate 2 (all_goals try(rename _∧_=>ho;obtain⟨_,_⟩:=ho))
     iterate 7 (all_goals try(rename _∨_=>ho;rcases ho with ho|ho))
     all_goals(repeat (rename ¬ (_∨_)=>ho;rw[not_or] at ho;obtain⟨_,_⟩:=ho))
     all_goals go_wp2_with (first|(go_at_call 62;first|(refine(mark_at ‹_›).mono ?_;rintro e w' ⟨rfl,rfl⟩)|(refine(mark_bad ‹_›).mono ?_;rintro e w' ⟨⟨v,rfl⟩,rfl⟩))|(go_at_call 160;first|(refine((ih _ ?hk).operand _ _ _ _ _ ‹_› ‹_›).mono ?_;(case hk=>omega);rintro e w' ⟨v,rfl,hat⟩)|(refine(operand_f HCL _ _ _ _ _ _ ‹_›).mono ?_;rintro e w' ⟨v,rfl,hat⟩);have hc8:=bad_cell _ _ _ _ hat;first|rw[bad_ok] at hc8|rw[bad_fail] at hc8|skip)|(go_at_call 161;first|(refine((ih _ ?hk).period _ _ _ _ _ _ _ ‹_› (by first|exact fun _=>rfl|assumption|exact fun hb=>by cases hb) ‹_›).mono ?_;(case hk=>omega);rintro e w' ⟨v,rfl,hat⟩)|(refine(period_f HCL _ _ _ _ _ _ _ ‹_›).mono ?_;rintro e w' ⟨v,rfl,hat⟩);have hc8:=bad_cell _ _ _ _ hat;first|rw[bad_ok] at hc8|rw[bad_fail] at hc8|skip)|(go_at_call 162;first|(refine((ih _ ?hk).index _ _ _ _ _ _ _ ‹_› (by first|exact fun _=>rfl|assumption|exact fun hb=>by cases hb) ‹_›).mono ?_;(case hk=>omega);rintro e w' ⟨v,rfl,hat⟩)|(refine(index_f HCL _ _ _ _ _ _ _ ‹_›).mono ?_;rintro e w' ⟨v,rfl,hat⟩);have hc8:=bad_cell _ _ _ _ hat;first|rw[bad_ok] at hc8|rw[bad_fail] at hc8|skip)|(go_at_call 163;first|(refine((ih _ ?hk).call _ _ _ _ _ _ _ ‹_› (by first|exact fun _=>rfl|assumption|exact fun hb=>by cases hb) ‹_›).mono ?_;(case hk=>omega);rintro e w' ⟨v,rfl,hat⟩)|(refine(call_f HCL _ _ _ _ _ _ _ ‹_›).mono ?_;rintro e w' ⟨v,rfl,hat⟩);have hc8:=bad_cell _ _ _ _ hat;first|rw[bad_ok] at hc8|rw[bad_fail] at hc8|skip)|(go_at_call 165;first|(refine((ih _ ?hk).values _ _ _ _ _ ‹_› ‹_›).mono ?_;(case hk=>omega);rintro e w' ⟨v,rfl,hat⟩)|(refine(values_f HCL _ _ _ _ _ _ ‹_›).mono ?_;rintro e w' ⟨v,rfl,hat⟩);have hc8:=bad_cell _ _ _ _ hat;first|rw[bad_ok] at hc8|rw[bad_fail] at hc8|skip)|(go_at_call 38;refine(HCL _ _ _ _ _ _ _ _ ‹_› (by first|exact fun _=>rfl|assumption|exact fun hb=>by cases hb) (by first|assumption|exact Lib.hid rfl|exact run_hid _ _ _ _ _)).mono ?_;rintro e w' ⟨v,rfl,hat⟩;have hc8:=bad_cell _ _ _ _ hat;first|rw[bad_ok] at hc8|rw[bad_fail] at hc8|skip)|(go_at_call 95;first|(with_reducible refine(comes1_yes ‹_› ?hc).mono ?_;(case hc=>simp [Res.comes, *]);rintro e w' ⟨rfl,hat⟩)|(with_reducible refine(comes1_no ‹_› ?hc).mono ?_;(case hc=>simp [Res.comes, *]);rintro e w' ⟨rfl,hat⟩);have hc8:=bad_cell _ _ _ _ hat;first|rw[bad_ok] at hc8|rw[bad_fail] at hc8|skip)|(go_at_call 106;refine(last_at ‹_› _).mono ?_;rintro e w' ⟨n',rfl,hat,hti⟩;have hc8:=bad_cell _ _ _ _ hat;first|rw[bad_ok] at hc8|rw[bad_fail] at hc8|skip)|(go_at_call 164;refine(literal_any _ ‹_›).mono ?_;rintro e w2 ⟨rfl,hb2⟩;have hat:=At.below ‹_› hb2;have hc8:=bad_cell _ _ _ _ hat;first|rw[bad_ok] at hc8|rw[bad_fail] at hc8|skip))
     all_goals(first
      |(go_roundw;(case rel=>exact(Lq.less (by omega) ‹_› ‹_› hq).1);(case measure=>exact(Lq.less (n:=n) (by omega) ‹_› ‹_› hq).2))
      |(go_end0;exact⟨_,rfl,by assumption⟩)
      |(go_ret;exact⟨_,rfl,by assumption⟩))
    ·split at hy2
     ·iterate 16 (all_goals try(first|split at hy2|(rw[bind_iff] at hy2;obtain⟨z,hz,hy2⟩:=hy2;try(rw[some_hid] at hz;subst hz))))
      all_goals(first|(obtain rfl:=Option.some.inj hy2)|(replace hy2:=Lib.hid hy2))
      iterate 2 (all_goals try(rename _∧_=>ho;obtain⟨_,_⟩:=ho))
      iterate 7 (all_goals try(rename _∨_=>ho;rcases ho with ho|ho))
      all_goals(repeat (rename ¬ (_∨_)=>ho;rw[not_or] at ho;obtain⟨_,_⟩:=ho))
      all_goals go_wp2_with (first|(go_at_call 62;first|(refine(mark_at ‹_›).mono ?_;rintro e w' ⟨rfl,rfl⟩)|(refine(mark_bad ‹_›).mono ?_;rintro e w' ⟨⟨v,rfl⟩,rfl⟩))|(go_at_call 160;first|(refine((ih _ ?hk).operand _ _ _ _ _ ‹_› ‹_›).mono ?_;(case hk=>omega);rintro e w' ⟨v,rfl,hat⟩)|(refine(operand_f HCL _ _ _ _ _ _ ‹_›).mono ?_;rintro e w' ⟨v,rfl,hat⟩);have hc8:=bad_cell _ _ _ _ hat;first|rw[bad_ok] at hc8|rw[bad_fail] at hc8|skip)|(go_at_call 161;first|(refine((ih _ ?hk).period _ _ _ _ _ _ _ ‹_› (by first|exact fun _=>rfl|assumption|exact fun hb=>by cases hb) ‹_›).mono ?_;(case hk=>omega);rintro e w' ⟨v,rfl,hat⟩)|(refine(period_f HCL _ _ _ _ _ _ _ ‹_›).mono ?_;rintro e w' ⟨v,rfl,hat⟩);have hc8:=bad_cell _ _ _ _ hat;first|rw[bad_ok] at hc8|rw[bad_fail] at hc8|skip)|(go_at_call 162;first|(refine((ih _ ?hk).index _ _ _ _ _ _ _ ‹_› (by first|exact fun _=>rfl|assumption|exact fun hb=>by cases hb) ‹_›).mono ?_;(case hk=>omega);rintro e w' ⟨v,rfl,hat⟩)|(refine(index_f HCL _ _ _ _ _ _ _ ‹_›).mono ?_;rintro e w' ⟨v,rfl,hat⟩);have hc8:=bad_cell _ _ _ _ hat;first|rw[bad_ok] at hc8|rw[bad_fail] at hc8|skip)|(go_at_call 163;first|(refine((ih _ ?hk).call _ _ _ _ _ _ _ ‹_› (by first|exact fun _=>rfl|assumption|exact fun hb=>by cases hb) ‹_›).mono ?_;(case hk=>omega);rintro e w' ⟨v,rfl,hat⟩)|(refine(call_f HCL _ _ _ _ _ _ _ ‹_›).mono ?_;rintro e w' ⟨v,rfl,hat⟩);have hc8:=bad_cell _ _ _ _ hat;first|rw[bad_ok] at hc8|rw[bad_fail] at hc8|skip)|(go_at_call 165;first|(refine((ih _ ?hk).values _ _ _ _ _ ‹_› ‹_›).mono ?_;(case hk=>omega);rintro e w' ⟨v,rfl,hat⟩)|(refine(values_f HCL _ _ _ _ _ _ ‹_›).mono ?_;rintro e w' ⟨v,rfl,hat⟩);have hc8:=bad_cell _ _ _ _ hat;first|rw[bad_ok] at hc8|rw[bad_fail] at hc8|skip)|(go_at_call 38;refine(HCL _ _ _ _ _ _ _ _ ‹_› (by first|exact fun _=>rfl|assumption|exact fun hb=>by cases hb) (by first|assumption|exact Lib.hid rfl|exact run_hid _ _ _ _ _)).mono ?_;rintro e w' ⟨v,rfl,hat⟩;have hc8:=bad_cell _ _ _ _ hat;first|rw[bad_ok] at hc8|rw[bad_fail] at hc8|skip)|(go_at_call 95;first|(with_reducible refine(comes1_yes ‹_› ?hc).mono ?_;(case hc=>simp [Res.comes, *]);rintro e w' ⟨rfl,hat⟩)|(with_reducible refine(comes1_no ‹_› ?hc).mono ?_;(case hc=>simp [Res.comes, *]);rintro e w' ⟨rfl,hat⟩);have hc8:=bad_cell _ _ _ _ hat;first|rw[bad_ok] at hc8|rw[bad_fail] at hc8|skip)|(go_at_call 106;refine(last_at ‹_› _).mono ?_;rintro e w' ⟨n',rfl,hat,hti⟩;have hc8:=bad_cell _ _ _ _ hat;first|rw[bad_ok] at hc8|rw[bad_fail] at hc8|skip)|(go_at_call 164;refine(literal_any _ ‹_›).mono ?_;rintro e w2 ⟨rfl,hb2⟩;have hat:=At.below ‹_› hb2;have hc8:=bad_cell _ _ _ _ hat;first|rw[bad_ok] at hc8|rw[bad_fail] at hc8|skip))
      all_goals(first
      |(go_roundw;(case rel=>exact(Lq.less (by omega) ‹_› ‹_› hq).1);(case measure=>exact(Lq.less (n:=n) (by omega) ‹_› ‹_› hq).2))
      |(go_end0;exact⟨_,rfl,by assumption⟩)
      |(go_ret;exact⟨_,rfl,by assumption⟩))
     ·split at hy2
      ·iterate 16 (all_goals try(first|split at hy2|(rw[bind_iff] at hy2;obtain⟨z,hz,hy2⟩:=hy2;try(rw[some_hid] at hz;subst hz))))
       all_goals(first|(obtain rfl:=Option.some.inj hy2)|(replace hy2:=Lib.hid hy2))
       iterate 2 (all_goals try(rename _∧_=>ho;obtain⟨_,_⟩:=ho))
       iterate 7 (all_goals try(rename _∨_=>ho;rcases ho with ho|ho))
       all_goals(repeat (rename ¬ (_∨_)=>ho;rw[not_or] at ho;obtain⟨_,_⟩:=ho))
       all_goals go_wp2_with (first|(go_at_call 62;first|(refine(mark_at ‹_›).mono ?_;rintro e w' ⟨rfl,rfl⟩)|(refine(mark_bad ‹_›).mono ?_;rintro e w' ⟨⟨v,rfl⟩,rfl⟩))|(go_at_call 160;first|(refine((ih _ ?hk).operand _ _ _ _ _ ‹_› ‹_›).mono ?_;(case hk=>omega);rintro e w' ⟨v,rfl,hat⟩)|(refine(operand_f HCL _ _ _ _ _ _ ‹_›).mono ?_;rintro e w' ⟨v,rfl,hat⟩);have hc8:=bad_cell _ _ _ _ hat;first|rw[bad_ok] at hc8|rw[bad_fail] at hc8|skip)|(go_at_call 161;first|(refine((ih _ ?hk).period _ _ _ _ _ _ _ ‹_› (by first|exact fun _=>rfl|assumption|exact fun hb=>by cases hb) ‹_›).mono ?_;(case hk=>omega);rintro e w' ⟨v,rfl,hat⟩)|(refine(period_f HCL _ _ _ _ _ _ _ ‹_›).mono ?_;rintro e w' ⟨v,rfl,hat⟩);have hc8:=bad_cell _ _ _ _ hat;first|rw[bad_ok] at hc8|rw[bad_fail] at hc8|skip)|(go_at_call 162;first|(refine((ih _ ?hk).index _ _ _ _ _ _ _ ‹_› (by first|exact fun _=>rfl|assumption|exact fun hb=>by cases hb) ‹_›).mono ?_;(case hk=>omega);rintro e w' ⟨v,rfl,hat⟩)|(refine(index_f HCL _ _ _ _ _ _ _ ‹_›).mono ?_;rintro e w' ⟨v,rfl,hat⟩);have hc8:=bad_cell _ _ _ _ hat;first|rw[bad_ok] at hc8|rw[bad_fail] at hc8|skip)|(go_at_call 163;first|(refine((ih _ ?hk).call _ _ _ _ _ _ _ ‹_› (by first|exact fun _=>rfl|assumption|exact fun hb=>by cases hb) ‹_›).mono ?_;(case hk=>omega);rintro e w' ⟨v,rfl,hat⟩)|(refine(call_f HCL _ _ _ _ _ _ _ ‹_›).mono ?_;rintro e w' ⟨v,rfl,hat⟩);have hc8:=bad_cell _ _ _ _ hat;first|rw[bad_ok] at hc8|rw[bad_fail] at hc8|skip)|(go_at_call 165;first|(refine((ih _ ?hk).values _ _ _ _ _ ‹_› ‹_›).mono ?_;(case hk=>omega);rintro e w' ⟨v,rfl,hat⟩)|(refine(values_f HCL _ _ _ _ _ _ ‹_›).mono ?_;rintro e w' ⟨v,rfl,hat⟩);have hc8:=bad_cell _ _ _ _ hat;first|rw[bad_ok] at hc8|rw[bad_fail] at hc8|skip)|(go_at_call 38;refine(HCL _ _ _ _ _ _ _ _ ‹_› (by first|exact fun _=>rfl|assumption|exact fun hb=>by cases hb) (by first|assumption|exact Lib.hid rfl|exact run_hid _ _ _ _ _)).mono ?_;rintro e w' ⟨v,rfl,hat⟩;have hc8:=bad_cell _ _ _ _ hat;first|rw[bad_ok] at hc8|rw[bad_fail] at hc8|skip)|(go_at_call 95;first|(with_reducible refine(comes1_yes ‹_› ?hc).mono ?_;(case hc=>simp [Res.comes, *]);rintro e w' ⟨rfl,hat⟩)|(with_reducible refine(comes1_no ‹_› ?hc).mono ?_;(case hc=>simp [Res.comes, *]);rintro e w' ⟨rfl,hat⟩);have hc8:=bad_cell _ _ _ _ hat;first|rw[bad_ok] at hc8|rw[bad_fail] at hc8|skip)|(go_at_call 106;refine(last_at ‹_› _).mono ?_;rintro e w' ⟨n',rfl,hat,hti⟩;have hc8:=bad_cell _ _ _ _ hat;first|rw[bad_ok] at hc8|rw[bad_fail] at hc8|skip)|(go_at_call 164;refine(literal_any _ ‹_›).mono ?_;rintro e w2 ⟨rfl,hb2⟩;have hat:=At.below ‹_› hb2;have hc8:=bad_cell _ _ _ _ hat;first|rw[bad_ok] at hc8|rw[bad_fail] at hc8|skip))
       all_goals(first
      |(go_roundw;(case rel=>exact(Lq.less (by omega) ‹_› ‹_› hq).1);(case measure=>exact(Lq.less (n:=n) (by omega) ‹_› ‹_› hq).2))
      |(go_end0;exact⟨_,rfl,by assumption⟩)
      |(go_ret;exact⟨_,rfl,by assumption⟩))
      ·split at hy2
       ·rename _∧_=>h59
        obtain⟨h59,hl3⟩:=h59
        rw[hl3] at hl2
        iterate 16 (all_goals try(first|split at hy2|(rw[bind_iff] at hy2;obtain⟨z,hz,hy2⟩:=hy2;try(rw[some_hid] at hz;subst hz))))
        all_goals(first|(obtain rfl:=Option.some.inj hy2)|(replace hy2:=Lib.hid hy2))
        iterate 2 (all_goals try(rename _∧_=>ho;obtain⟨_,_⟩:=ho))
        iterate 7 (all_goals try(rename _∨_=>ho;rcases ho with ho|ho))
        all_goals(repeat (rename ¬ (_∨_)=>ho;rw[not_or] at ho;obtain⟨_,_⟩:=ho))
        all_goals go_wp2_with (first|(go_at_call 62;first|(refine(mark_at ‹_›).mono ?_;rintro e w' ⟨rfl,rfl⟩)|(refine(mark_bad ‹_›).mono ?_;rintro e w' ⟨⟨v,rfl⟩,rfl⟩))|(go_at_call 160;first|(refine((ih _ ?hk).operand _ _ _ _ _ ‹_› ‹_›).mono ?_;(case hk=>omega);rintro e w' ⟨v,rfl,hat⟩)|(refine(operand_f HCL _ _ _ _ _ _ ‹_›).mono ?_;rintro e w' ⟨v,rfl,hat⟩);have hc8:=bad_cell _ _ _ _ hat;first|rw[bad_ok] at hc8|rw[bad_fail] at hc8|skip)|(go_at_call 161;first|(refine((ih _ ?hk).period _ _ _ _ _ _ _ ‹_› (by first|exact fun _=>rfl|assumption|exact fun hb=>by cases hb) ‹_›).mono ?_;(case hk=>omega);rintro e w' ⟨v,rfl,hat⟩)|(refine(period_f HCL _ _ _ _ _ _ _ ‹_›).mono ?_;rintro e w' ⟨v,rfl,hat⟩);have hc8:=bad_cell _ _ _ _ hat;first|rw[bad_ok] at hc8|rw[bad_fail] at hc8|skip)|(go_at_call 162;first|(refine((ih _ ?hk).index _ _ _ _ _ _ _ ‹_› (by first|exact fun _=>rfl|assumption|exact fun hb=>by cases hb) ‹_›).mono ?_;(case hk=>omega);rintro e w' ⟨v,rfl,hat⟩)|(refine(index_f HCL _ _ _ _ _ _ _ ‹_›).mono ?_;rintro e w' ⟨v,rfl,hat⟩);have hc8:=bad_cell _ _ _ _ hat;first|rw[bad_ok] at hc8|rw[bad_fail] at hc8|skip)|(go_at_call 163;first|(refine((ih _ ?hk).call _ _ _ _ _ _ _ ‹_› (by first|exact fun _=>rfl|assumption|exact fun hb=>by cases hb) ‹_›).mono ?_;(case hk=>omega);rintro e w' ⟨v,rfl,hat⟩)|(refine(call_f HCL _ _ _ _ _ _ _ ‹_›).mono ?_;rintro e w' ⟨v,rfl,hat⟩);have hc8:=bad_cell _ _ _ _ hat;first|rw[bad_ok] at hc8|rw[bad_fail] at hc8|skip)|(go_at_call 165;first|(refine((ih _ ?hk).values _ _ _ _ _ ‹_› ‹_›).mono ?_;(case hk=>omega);rintro e w' ⟨v,rfl,hat⟩)|(refine(values_f HCL _ _ _ _ _ _ ‹_›).mono ?_;rintro e w' ⟨v,rfl,hat⟩);have hc8:=bad_cell _ _ _ _ hat;first|rw[bad_ok] at hc8|rw[bad_fail] at hc8|skip)|(go_at_call 38;refine(HCL _ _ _ _ _ _ _ _ ‹_› (by first|exact fun _=>rfl|assumption|exact fun hb=>by cases hb) (by first|assumption|exact Lib.hid rfl|exact run_hid _ _ _ _ _)).mono ?_;rintro e w' ⟨v,rfl,hat⟩;have hc8:=bad_cell _ _ _ _ hat;first|rw[bad_ok] at hc8|rw[bad_fail] at hc8|skip)|(go_at_call 95;first|(with_reducible refine(comes1_yes ‹_› ?hc).mono ?_;(case hc=>simp [Res.comes, *]);rintro e w' ⟨rfl,hat⟩)|(with_reducible refine(comes1_no ‹_› ?hc).mono ?_;(case hc=>simp [Res.comes, *]);rintro e w' ⟨rfl,hat⟩);have hc8:=bad_cell _ _ _ _ hat;first|rw[bad_ok] at hc8|rw[bad_fail] at hc8|skip)|(go_at_call 106;refine(last_at ‹_› _).mono ?_;rintro e w' ⟨n',rfl,hat,hti⟩;have hc8:=bad_cell _ _ _ _ hat;first|rw[bad_ok] at hc8|rw[bad_fail] at hc8|skip)|(go_at_call 164;refine(literal_any _ ‹_›).mono ?_;rintro e w2 ⟨rfl,hb2⟩;have hat:=At.below ‹_› hb2;have hc8:=bad_cell _ _ _ _ hat;first|rw[bad_ok] at hc8|rw[bad_fail] at hc8|skip))
        all_goals(first
      |(go_roundw;(case rel=>exact(Lq.less (by omega) ‹_› ‹_› hq).1);(case measure=>exact(Lq.less (n:=n) (by omega) ‹_› ‹_› hq).2))
      |(go_end0;exact⟨_,rfl,by assumption⟩)
      |(go_ret;exact⟨_,rfl,by assumption⟩))
       ·rename ¬ (_∧_)=>h59
        obtain rfl:=Option.some.inj hy2
        clear hy2
        by_cases h59':(Res.ok s').kind=59
        ·have hl3:lt=false:=by
          cases lt with
          |false=>rfl
          |true=>exact absurd ⟨h59',rfl⟩ h59
         rw[hl3] at hl2
         clear h59
         go_wp2_with (first|(go_at_call 62;first|(refine(mark_at ‹_›).mono ?_;rintro e w' ⟨rfl,rfl⟩)|(refine(mark_bad ‹_›).mono ?_;rintro e w' ⟨⟨v,rfl⟩,rfl⟩))|(go_at_call 160;first|(refine((ih _ ?hk).operand _ _ _ _ _ ‹_› ‹_›).mono ?_;(case hk=>omega);rintro e w' ⟨v,rfl,hat⟩)|(refine(operand_f HCL _ _ _ _ _ _ ‹_›).mono ?_;rintro e w' ⟨v,rfl,hat⟩);have hc8:=bad_cell _ _ _ _ hat;first|rw[bad_ok] at hc8|rw[bad_fail] at hc8|skip)|(go_at_call 161;first|(refine((ih _ ?hk).period _ _ _ _ _ _ _ ‹_› (by first|exact fun _=>rfl|assumption|exact fun hb=>by cases hb) ‹_›).mono ?_;(case hk=>omega);rintro e w' ⟨v,rfl,hat⟩)|(refine(period_f HCL _ _ _ _ _ _ _ ‹_›).mono ?_;rintro e w' ⟨v,rfl,hat⟩);have hc8:=bad_cell _ _ _ _ hat;first|rw[bad_ok] at hc8|rw[bad_fail] at hc8|skip)|(go_at_call 162;first|(refine((ih _ ?hk).index _ _ _ _ _ _ _ ‹_› (by first|exact fun _=>rfl|assumption|exact fun hb=>by cases hb) ‹_›).mono ?_;(case hk=>omega);rintro e w' ⟨v,rfl,hat⟩)|(refine(index_f HCL _ _ _ _ _ _ _ ‹_›).mono ?_;rintro e w' ⟨v,rfl,hat⟩);have hc8:=bad_cell _ _ _ _ hat;first|rw[bad_ok] at hc8|rw[bad_fail] at hc8|skip)|(go_at_call 163;first|(refine((ih _ ?hk).call _ _ _ _ _ _ _ ‹_› (by first|exact fun _=>rfl|assumption|exact fun hb=>by cases hb) ‹_›).mono ?_;(case hk=>omega);rintro e w' ⟨v,rfl,hat⟩)|(refine(call_f HCL _ _ _ _ _ _ _ ‹_›).mono ?_;rintro e w' ⟨v,rfl,hat⟩);have hc8:=bad_cell _ _ _ _ hat;first|rw[bad_ok] at hc8|rw[bad_fail] at hc8|skip)|(go_at_call 165;first|(refine((ih _ ?hk).values _ _ _ _ _ ‹_› ‹_›).mono ?_;(case hk=>omega);rintro e w' ⟨v,rfl,hat⟩)|(refine(values_f HCL _ _ _ _ _ _ ‹_›).mono ?_;rintro e w' ⟨v,rfl,hat⟩);have hc8:=bad_cell _ _ _ _ hat;first|rw[bad_ok] at hc8|rw[bad_fail] at hc8|skip)|(go_at_call 38;refine(HCL _ _ _ _ _ _ _ _ ‹_› (by first|exact fun _=>rfl|assumption|exact fun hb=>by cases hb) (by first|assumption|exact Lib.hid rfl|exact run_hid _ _ _ _ _)).mono ?_;rintro e w' ⟨v,rfl,hat⟩;have hc8:=bad_cell _ _ _ _ hat;first|rw[bad_ok] at hc8|rw[bad_fail] at hc8|skip)|(go_at_call 95;first|(with_reducible refine(comes1_yes ‹_› ?hc).mono ?_;(case hc=>simp [Res.comes, *]);rintro e w' ⟨rfl,hat⟩)|(with_reducible refine(comes1_no ‹_› ?hc).mono ?_;(case hc=>simp [Res.comes, *]);rintro e w' ⟨rfl,hat⟩);have hc8:=bad_cell _ _ _ _ hat;first|rw[bad_ok] at hc8|rw[bad_fail] at hc8|skip)|(go_at_call 106;refine(last_at ‹_› _).mono ?_;rintro e w' ⟨n',rfl,hat,hti⟩;have hc8:=bad_cell _ _ _ _ hat;first|rw[bad_ok] at hc8|rw[bad_fail] at hc8|skip)|(go_at_call 164;refine(literal_any _ ‹_›).mono ?_;rintro e w2 ⟨rfl,hb2⟩;have hat:=At.below ‹_› hb2;have hc8:=bad_cell _ _ _ _ hat;first|rw[bad_ok] at hc8|rw[bad_fail] at hc8|skip))
         all_goals(first
      |(go_roundw;(case rel=>exact(Lq.less (by omega) ‹_› ‹_› hq).1);(case measure=>exact(Lq.less (n:=n) (by omega) ‹_› ‹_› hq).2))
      |(go_end0;exact⟨_,rfl,by assumption⟩)
      |(go_ret;exact⟨_,rfl,by assumption⟩))
        ·clear h59
         go_wp2_with (first|(go_at_call 62;first|(refine(mark_at ‹_›).mono ?_;rintro e w' ⟨rfl,rfl⟩)|(refine(mark_bad ‹_›).mono ?_;rintro e w' ⟨⟨v,rfl⟩,rfl⟩))|(go_at_call 160;first|(refine((ih _ ?hk).operand _ _ _ _ _ ‹_› ‹_›).mono ?_;(case hk=>omega);rintro e w' ⟨v,rfl,hat⟩)|(refine(operand_f HCL _ _ _ _ _ _ ‹_›).mono ?_;rintro e w' ⟨v,rfl,hat⟩);have hc8:=bad_cell _ _ _ _ hat;first|rw[bad_ok] at hc8|rw[bad_fail] at hc8|skip)|(go_at_call 161;first|(refine((ih _ ?hk).period _ _ _ _ _ _ _ ‹_› (by first|exact fun _=>rfl|assumption|exact fun hb=>by cases hb) ‹_›).mono ?_;(case hk=>omega);rintro e w' ⟨v,rfl,hat⟩)|(refine(period_f HCL _ _ _ _ _ _ _ ‹_›).mono ?_;rintro e w' ⟨v,rfl,hat⟩);have hc8:=bad_cell _ _ _ _ hat;first|rw[bad_ok] at hc8|rw[bad_fail] at hc8|skip)|(go_at_call 162;first|(refine((ih _ ?hk).index _ _ _ _ _ _ _ ‹_› (by first|exact fun _=>rfl|assumption|exact fun hb=>by cases hb) ‹_›).mono ?_;(case hk=>omega);rintro e w' ⟨v,rfl,hat⟩)|(refine(index_f HCL _ _ _ _ _ _ _ ‹_›).mono ?_;rintro e w' ⟨v,rfl,hat⟩);have hc8:=bad_cell _ _ _ _ hat;first|rw[bad_ok] at hc8|rw[bad_fail] at hc8|skip)|(go_at_call 163;first|(refine((ih _ ?hk).call _ _ _ _ _ _ _ ‹_› (by first|exact fun _=>rfl|assumption|exact fun hb=>by cases hb) ‹_›).mono ?_;(case hk=>omega);rintro e w' ⟨v,rfl,hat⟩)|(refine(call_f HCL _ _ _ _ _ _ _ ‹_›).mono ?_;rintro e w' ⟨v,rfl,hat⟩);have hc8:=bad_cell _ _ _ _ hat;first|rw[bad_ok] at hc8|rw[bad_fail] at hc8|skip)|(go_at_call 165;first|(refine((ih _ ?hk).values _ _ _ _ _ ‹_› ‹_›).mono ?_;(case hk=>omega);rintro e w' ⟨v,rfl,hat⟩)|(refine(values_f HCL _ _ _ _ _ _ ‹_›).mono ?_;rintro e w' ⟨v,rfl,hat⟩);have hc8:=bad_cell _ _ _ _ hat;first|rw[bad_ok] at hc8|rw[bad_fail] at hc8|skip)|(go_at_call 38;refine(HCL _ _ _ _ _ _ _ _ ‹_› (by first|exact fun _=>rfl|assumption|exact fun hb=>by cases hb) (by first|assumption|exact Lib.hid rfl|exact run_hid _ _ _ _ _)).mono ?_;rintro e w' ⟨v,rfl,hat⟩;have hc8:=bad_cell _ _ _ _ hat;first|rw[bad_ok] at hc8|rw[bad_fail] at hc8|skip)|(go_at_call 95;first|(with_reducible refine(comes1_yes ‹_› ?hc).mono ?_;(case hc=>simp [Res.comes, *]);rintro e w' ⟨rfl,hat⟩)|(with_reducible refine(comes1_no ‹_› ?hc).mono ?_;(case hc=>simp [Res.comes, *]);rintro e w' ⟨rfl,hat⟩);have hc8:=bad_cell _ _ _ _ hat;first|rw[bad_ok] at hc8|rw[bad_fail] at hc8|skip)|(go_at_call 106;refine(last_at ‹_› _).mono ?_;rintro e w' ⟨n',rfl,hat,hti⟩;have hc8:=bad_cell _ _ _ _ hat;first|rw[bad_ok] at hc8|rw[bad_fail] at hc8|skip)|(go_at_call 164;refine(literal_any _ ‹_›).mono ?_;rintro e w2 ⟨rfl,hb2⟩;have hat:=At.below ‹_› hb2;have hc8:=bad_cell _ _ _ _ hat;first|rw[bad_ok] at hc8|rw[bad_fail] at hc8|skip))
         all_goals(first
      |(go_roundw;(case rel=>exact(Lq.less (by omega) ‹_› ‹_› hq).1);(case measure=>exact(Lq.less (n:=n) (by omega) ‹_› ‹_› hq).2))
      |(go_end0;exact⟨_,rfl,by assumption⟩)
      |(go_ret;exact⟨_,rfl,by assumption⟩))
open Go.RowKit
end Go.Proofs.YtmelbeefjgjdhaaGreat.rd
