/-
  Of any tokens that are 16384 at most the program's Parse tells the tree, the diagnostic and the answer that the document's tells; of more the law says true (the law ExprParses).
  Conditions: none beyond the row's own.
-/
import Derived.Test.YtmelbeefjgjdhaaGreatP3
import Derived.ProofKit
import Derived.OpenShut
import Derived.ChangeOld
import Derived.Carry
import Derived.JoinedCond
import Derived.Deep.DeepHandedRow
import Derived.LaidLaws
import Derived.Deep.Slices
import Derived.Deep.Fields
import Derived.Test.YtmelbeefjgjdhaaGreatP35
set_option maxRecDepth 100000
set_option maxHeartbeats 8000000
namespace Go.Proofs.YtmelbeefjgjdhaaGreat.rd
open Go.ChangeShapes Go.WideShapes Go.ChangeAt Go.RowKit
theorem own:ownKnob Tryz.prog.godebug=none:=by kernel_rfl
theorem laidOut:laidOutB Tryz.prog=true:=by kernel_rfl
theorem spot_none {w:World} {a:Addr} {v:Value} (h:w.cell? a=some v):a.spot=none:=by
 unfold World.cell? at h
 split at h
 ·cases hs:a.spot with
  |none=>rfl
  |some x=>rw[hs] at h;simp at h
 ·cases h
def Light {H:Type} (t:TypeId) (d:DataW H):Prop:=(d.weights Tryz.prog t).all (· ≤ reachBytes)=true
theorem bytesT:Tryz.prog.bytesOf 55=24:=by kernel_rfl
theorem cellsI:Tryz.prog.cellsOf 3=1:=by kernel_rfl
theorem cellsT:Tryz.prog.cellsOf 55=3:=by kernel_rfl
theorem list_three {α:Type} {l:List α} (h:l.length=3):∃ a b c,l=[a,b,c]:=by
 match l,h with
 |[a,b,c],_=>exact⟨a,b,c,rfl⟩
theorem cells_of {α:Type} {F:Kd α} {w:World} {g off:Nat} {T:List α} (h:∀ n (hn:n<T.length) m u,(F.c T[n])[m]? = some u→w.cell? ⟨g,off+n*F.k+m,none⟩=some u):Cells F w g off T:=by
 intro j u hu
 have hl:=(List.getElem?_eq_some_iff.1 hu).1
 rw[flat_length] at hl
 have hk:=F.hk
 have hq:j / F.k<T.length:=Nat.div_lt_of_lt_mul (by rw[Nat.mul_comm];exact hl)
 have hm:j % F.k<F.k:=Nat.mod_lt _ hk
 have hj:j / F.k*F.k+j % F.k=j:=by rw[Nat.mul_comm];exact Nat.div_add_mod j F.k
 have hf:=flat_at F T (j / F.k) hq (j % F.k) hm
 rw[hj,hu] at hf
 have:=h _ hq _ u hf.symm
 rw[Nat.add_assoc,hj] at this
 exact this
theorem row_of_reads {α:Type} [Inhabited α] {F:Kd α} {W:World} {a:Addr} {len cap:Nat} (hl:len≤cap) (key:∀ i,i<len→∃ e:α,∀ m u,(F.c e)[m]? = some u→W.cell? ((a.add (i*F.k)).add m)=some u):∃ T,Row F W (.slice (some a) len cap) T∧T.length=len:=by
 by_cases hz:len=0
 ·subst hz
  exact⟨[],Row.nil W (some a) cap,rfl⟩
 ·obtain⟨b,o,spt⟩:=a
  obtain⟨e0,k0⟩:=key 0 (by omega)
  obtain⟨u0,hu0⟩:∃ u,(F.c e0)[0]? = some u:=⟨_,List.getElem?_eq_getElem (by rw[F.len];exact F.hk)⟩
  have hc:=k0 0 u0 hu0
  have hsp:=spot_none hc
  obtain rfl:spt=none:=by
   have:((Addr.add ⟨b,o,spt⟩ (0*F.k)).add 0).spot=spt:=by unfold Addr.add;split <;> simp_all
   rw[← this];exact hsp
  obtain⟨E,hE⟩:=Deep.choose_lt (α:=α) (n:=len) (p:=fun i e=>∀ m u,(F.c e)[m]? = some u→W.cell? (((⟨b,o,none⟩:Addr).add (i*F.k)).add m)=some u) key
  refine⟨(List.range len).map E,⟨b,o,_,cap,by simpa using hl,by simp,fun _=>rfl,cells_of (fun n hn m u hu=>?_)⟩,by simp⟩
  simp only[List.length_map,List.length_range] at hn
  have:=hE n hn m u (by simpa using hu)
  simp only[Addr.add_lit] at this
  exact this
instance : Inhabited Tk := ⟨⟨0, 0, 0⟩⟩
theorem tk_of_trod {H:Type} {enc:TypeId × Value→H} {W:World} {sp:Nat→Bool} {held:Bool} {fuel:Nat} {v:Value} {x:DataW H × List MemPlace} (h:DataW.trod enc Tryz.prog W 0 sp held fuel 22 [v]=some x) (hb:Light 22 x.1):∃ T,Row tk W v T∧T.length*24≤140737488351232:=by
 rcases Deep.open_slice Tryz.underlying22 h with⟨hv,_⟩|⟨a,len,cap,m,n,D,Pl,hv,_,hl,_,hm,hx,hi⟩
 ·simp only[List.cons.injEq,and_true] at hv
  subst hv
  exact⟨[],Row.nil W none 0,by simp⟩
 ·simp only[List.cons.injEq,and_true] at hv
  subst hv
  have hlm:len≤m:=by rw[hm];split <;> omega
  rw[hx] at hb
  unfold Light at hb
  simp only[DataW.weights,Tryz.underlying22,bytesT,List.all_cons,List.all_append,Bool.and_eq_true,decide_eq_true_eq,List.length_map,List.length_range] at hb
  obtain⟨hlen,_⟩:=hb
  unfold reachBytes at hlen
  have key:∀ i,i<len→∃ e:Tk,∀ m u,(tk.c e)[m]? = some u→W.cell? ((a.add (i*tk.k)).add m)=some u:=by
   intro i hil
   obtain⟨cs,hc,ht⟩:=hi i (by omega)
   rw[cellsT] at hc
   obtain⟨_,hcl,hat⟩:=World.cells?_some hc
   obtain⟨ys,n',_,_,_,hyl,hf⟩:=DataW.trod_struct Tryz.underlying55 ht
   have f0:=hf 0 _ rfl
   have f1:=hf 1 _ rfl
   have f2:=hf 2 _ rfl
   have hyl3:ys.length=3:=hyl
   change DataW.trod _ _ _ _ _ _ _ 3 ((cs.drop 0).take (Tryz.prog.cellsOf 3))=_ at f0
   change DataW.trod _ _ _ _ _ _ _ 3 ((cs.drop 1).take (Tryz.prog.cellsOf 3))=_ at f1
   change DataW.trod _ _ _ _ _ _ _ 3 ((cs.drop 2).take (Tryz.prog.cellsOf 3))=_ at f2
   rw[cellsI] at f0 f1 f2
   clear hyl hf ht
   obtain⟨c0,c1,c2,rfl⟩:=list_three hcl
   obtain⟨y0,y1,y2,rfl⟩:=list_three hyl3
   obtain⟨p,hp,_⟩:=DataW.trod_int Tryz.underlying3 (x:=y0) f0
   obtain⟨q,hq,_⟩:=DataW.trod_int Tryz.underlying3 (x:=y1) f1
   obtain⟨r,hr,_⟩:=DataW.trod_int Tryz.underlying3 (x:=y2) f2
   simp only[List.drop_zero,List.drop_succ_cons,List.take_succ_cons,List.take_zero,List.cons.injEq,and_true] at hp hq hr
   subst hp;subst hq;subst hr
   refine⟨⟨p,q,r⟩,fun m u hu=>?_⟩
   have hm3:m<3:=by
    have:=(List.getElem?_eq_some_iff.1 hu).1
    exact this
   have:=hat m hm3
   rw[show tk.k=3 from rfl,this]
   exact hu
  obtain⟨T,hT,hTl⟩:=row_of_reads (F:=tk) hl key
  exact⟨T,hT,by omega⟩
open Go.ChangeShapes Go.WideShapes Go.ChangeAt Go.RowKit
theorem exprParses_contract (H:Type) (enc:TypeId × Value→H) (W:World) (base:Nat) (args:Array Value) (ds gs:List (DataW H)) (before:List MemPlace)
  (hval:∀ (j:Nat) t v,Tryz.f4.params[j]? = some t→args[j]? = some v→Value.okWide Tryz.prog W .any base t v)
  (hW:DataW.Whole enc Tryz.prog Tryz.f4.params.toList Rows.exprParsesSpec.vars false W args.toList ds gs before) (hsz:(DataW.weightsEach Tryz.prog Tryz.f4.params.toList ds).all (· ≤ reachBytes)=true) :
  Calls Tryz.prog 4 args W fun e W'=>∃ v,e=.returned v∧Rows.exprParsesSpec.post enc Tryz.prog Tryz.f4 false true false false W args v W':=by
 have hW':=hW
 obtain⟨p,q,hA0,hV,rfl,hfz,hnd⟩:=hW
 have hA:DataW.TrodAll enc Tryz.prog W 0 (fun _=>true) true Tryz.f4.params.toList args.toList ds p:=hA0
 rw[Tryz.params4] at hA hval hsz
 obtain⟨v0,vs0,d0,ds0,p0,q0,hargs,rfl,rfl,h0,r0⟩:=trodAll_cons hA
 obtain⟨rfl,rfl,rfl⟩:=trodAll_nil r0
 obtain rfl:args=#[v0]:=by cases args;simp_all
 obtain⟨rfl,rfl⟩:=trodVars_none hV
 have kk0:=hval 0 22 v0 (by simp) (by simp)
 have hs:=hsz
 have hs:(((d0:DataW H).weights Tryz.prog 22 ++ []):List Nat).all (· ≤ reachBytes)=true:=hsz
 simp only[List.all_append,Bool.and_eq_true] at hs
 have l0:Light 22 d0:=by unfold Light;exact hs.1
 have k0:=h0
 have lt0:∀ x∈p0,x.block<W.heap.size:=by obtain⟨m,hm⟩:=k0;exact DataW.trod_lt m _ _ _ hm
 obtain⟨oa0,len0,cap0,rfl⟩:=okWide_slice Tryz.underlying22 kk0
 obtain⟨fuel0,hf0⟩:=h0
 obtain⟨T0,e0,L0⟩:=tk_of_trod (v:=.slice oa0 len0 cap0) (by simpa [Value.cells] using hf0) l0
 clear hA0
 simp only[List.append_nil] at hW'
 refine(parses_law _ T0 W e0 (by omega)).mono fun e W' ⟨he,bel⟩=>?_
 subst he
 exact⟨_,rfl,_,_,_,[],_,[],hW',trodAll_cons_mk (shut_bool Tryz.underlying4 _) trodAll_mk0,(trodAll_cons_mk (Below.trod laidOut (by kernel_rfl) (of_decide_eq_true (by kernel_rfl)) k0 bel lt0) trodAll_mk0),rfl,bel.frame _,fun h=>by cases h⟩
theorem exprParses_reads (os:Os) {H:Type} (enc:TypeId × Value→H):∃ places,DataW.whole enc Tryz.prog ((World.holding Tryz.prog os ⟨#[],#[],[]⟩).forCall (fun _ _=>0) ⟨#[],#[.slice none 0 0],[]⟩).memory Tryz.f4.params.toList Rows.exprParsesSpec.vars false #[.slice none 0 0].toList 8=some ([.nil],[],places):=
 ⟨[],by kernel_rfl⟩
theorem exprParses_laid (os:Os):laidMet Tryz.prog Rows.exprParsesRow.laid ((World.holding Tryz.prog os ⟨#[],#[],[]⟩).forCall (fun _ _=>0) ⟨#[],#[.slice none 0 0],[]⟩).memory:=
 laidMet_of_run' 8 (by kernel_rfl) (by kernel_rfl)
theorem exprParses_lifted (os:Os) (started:os.Started) (H:Type) (enc:TypeId × Value→H) (F:Stop.Interp) :
  ReturnsInHanded {} Tryz.checked os 4 .any ((OpenSpec.ofChange Rows.exprParsesSpec).preRow enc Tryz.prog Tryz.f4 Rows.exprParsesRow.domain false Rows.exprParsesRow.laid) (((OpenSpec.ofChange Rows.exprParsesSpec).at F).post enc Tryz.prog Tryz.f4 false true false false):=by
 obtain⟨places,hx⟩:=exprParses_reads os enc
 refine returnsInHanded_of_row (C:=Tryz.checked) (s:=OpenSpec.ofChange Rows.exprParsesSpec) own started (by kernel_rfl) Tryz.func4
  (witness_row_at (enc:=enc) (C:=Tryz.checked) false (World.holding Tryz.prog os ⟨#[],#[],[]⟩) #[.slice none 0 0] rfl (by kernel_rfl) (by kernel_rfl) (by kernel_rfl)
   (OpenSpec.preRow_of_cond 8 hx (by kernel_rfl) (fun k hk=>by cases hk) (by kernel_rfl) (exprParses_laid os))) ?_
 intro W base args ds gs before hval hW _ _ hsz _ _ _
 have hsz':(DataW.weightsEach Tryz.prog Tryz.f4.params.toList ds).all (· ≤ reachBytes)=true:=by
  have hgs:gs=[]:=by
   obtain⟨p,q,_,hV,_⟩:=hW
   exact(trodVars_none hV).1
  have h0:(DataW.weightsEach Tryz.prog (Tryz.f4.params.toList ++ []) (ds ++ gs)).all (· ≤ reachBytes)=true:=hsz
  rwa [hgs,List.append_nil,List.append_nil] at h0
 exact exprParses_contract H enc W base args ds gs before hval hW hsz'
theorem exprParses_holds:Rows.ExprParsesSaid:=
 OpenClaim.holds_of_cond 4 Tryz.f4 rfl rfl rfl rfl rfl rfl rfl ⟨rfl,rfl,rfl,rfl,rfl⟩ rfl rfl rfl rfl rfl (by as_aux_lemma=>kernel_rfl) Tryz.func4 (by as_aux_lemma=>kernel_rfl)
  (of_decide_eq_true (by as_aux_lemma=>kernel_rfl)) (by unfold Func.isWrapper;first|(rw[if_pos (by decide +kernel)];kernel_rfl)|(rw[if_neg (by decide +kernel)];exact⟨rfl,rfl⟩))
  (fun os started H enc _ F=>by rw[OpenClaim.pre_eq_preRow];exact exprParses_lifted os started H enc F)
end Go.Proofs.YtmelbeefjgjdhaaGreat.rd
