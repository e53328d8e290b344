/-
  Texts put together: Io, Ip, Iq, Ir, Hd.
-/
import Derived.Test.YtcekbbkidipbnaaGreatL14
import Derived.Test.YtcekbbkidipbnaaGreatL13
import Derived.Test.YtcekbbkidipbnaaGreatL6
set_option maxRecDepth 100000
set_option maxHeartbeats 8000000
namespace Go.Proofs.YtcekbbkidipbnaaGreat.rd
open Go.RowKit
theorem box_kept' {u w2:World} {v:Value} {t:TypeId} (hb:Below (u.alloc (.cells #[v] t)).drew.heap.size (u.alloc (.cells #[v] t)).drew w2):w2.heap[u.heap.size]? = some (.cells #[v] t (0,0)):=(hb.block _ (by show u.heap.size<(u.alloc (.cells #[v] t)).heap.size;rw[World.size_alloc];omega)).trans (heap_alloc_last u _)
theorem cutA {W1 u w2:World} {o:Option Addr} {c:Nat} {T:List Bn} (hW:Below W1.heap.size W1 u) (hm:Mine bt w2 u.heap.size (.slice o T.length c) T) (hb:Below u.heap.size u w2) :
  ∃ Br vc,Value.pointer (some ⟨w2.heap.size,0,none⟩)=.pointer (some ⟨Br,0,none⟩)∧(w2.alloc (.cells #[.slice o T.length c] 59)).heap[Br]? = some (.cells #[vc] 59 (0,0))∧Mine bt (w2.alloc (.cells #[.slice o T.length c] 59)) W1.heap.size vc T∧Below W1.heap.size W1 (w2.alloc (.cells #[.slice o T.length c] 59))∧W1.heap.size≤Br:=by
 have h2:Below W1.heap.size W1 w2:=hW.trans (hb.mono hW.size)
 exact⟨_,_,rfl,heap_alloc_last _ _,(hm.mono hW.size).below ((Below.refl _ _).alloc (Nat.le_refl _) _),h2.alloc h2.size _,h2.size⟩
theorem cutB {W1 u w2:World} {o:Option Addr} {c:Nat} {T:List Bn} {x:Value} (hW:Below W1.heap.size W1 u) (hm:Mine bt w2 u.heap.size (.slice o T.length c) T) (hb:Below u.heap.size u w2) (h7:w2.heap[W1.heap.size]? = some (.cells #[x] 59 (0,0))) :
  ∃ Br vc,Value.pointer (some ⟨W1.heap.size,0,none⟩)=.pointer (some ⟨Br,0,none⟩)∧(w2.setCell ⟨W1.heap.size,0,none⟩ (.slice o T.length c)).heap[Br]? = some (.cells #[vc] 59 (0,0))∧Mine bt (w2.setCell ⟨W1.heap.size,0,none⟩ (.slice o T.length c)) W1.heap.size vc T∧Below W1.heap.size W1 (w2.setCell ⟨W1.heap.size,0,none⟩ (.slice o T.length c))∧W1.heap.size≤Br:=by
 have h2:Below W1.heap.size W1 w2:=hW.trans (hb.mono hW.size)
 have hne:=hm.ne h7 (by decide)
 refine⟨_,_,rfl,heap_setCell_same _ _ 0 _ _ _ h7,(hm.mono hW.size).keep (fun k hk _=>set_one _ _ _ _ _ (fun e=>hne (by rw[← e];exact hk))),⟨h2.os,h2.tape,h2.output,by rw[size_set];exact h2.size,fun k hk=>(set_one _ _ _ _ _ (by omega)).trans (h2.block k hk)⟩,Nat.le_refl _⟩
theorem ch_at {G:List En} {lo hi a i:Nat}:Ch a (G.drop i) hi→i<G.length→∃ (h:i<G.length),a≤G[i].f∧G[i].f≤G[i].t∧Ch G[i].t (G.drop (i+1)) hi:=by
 intro h hi2
 have _:=lo
 rw[List.drop_eq_getElem_cons hi2] at h
 exact⟨hi2,h.1,h.2.1,h.2.2⟩
theorem Ch.fst {G:List En} {a hi:Nat} (h:Ch a G hi):a≤hi:=h.le
theorem ccloseEach_cons {C:Kc} {w:World} {b:Nat} {x y:Res} {B:Nat} {v:Value} {e0:En} {r0:List En} {lo:Nat} (hat:Hid (CAt C w b x)) (hv:Hid (HeldC C.k w B v en (e0::r0))) (hch:Hid (Ch lo (e0::r0) C.low)) (hy:Hid (cEachAll (e0::r0) x=some y)) (hfew:∀ s,x=.ok s→s.R.length+(e0::r0).length+s.L.length≤549755813888) (hl0:(e0::r0).length≤1099511627776) :
  Calls Tryz.prog 104 #[.pointer (some ⟨b,0,none⟩),v,.int .i64 233] w (CPost ⟨C.k,lo⟩ b y):=by
 obtain⟨vL,vS,vR,σ,D,hr,ho,hi⟩:=hat.out
 have hbz:b<w.heap.size:=(Array.getElem?_eq_some_iff.1 hr.cells).1
 have hfew0:=c_few hi
 have hlow:C.low≤σ.R.length:=by
  cases x with
  |fail=>exact hi.2.2.2.2.2.2
  |ok s=>
   have:=hi.2.2.2.1.length
   rw[List.length_map] at this
   have:=hi.2.2.2.2.2.2.2.2.2
   omega
 obtain⟨c1,c2,c3⟩:=hch.out
 have c4:=c3.le
 obtain⟨g,oG,capG,hvG,hoG,_⟩:=hv.out.mine.shape
 obtain rfl:=hoG (by simp)
 subst hvG
 have hcG:=hv.out.mine.cells
 have hgK:C.k.K g:=hv.out.held g rfl
 have hgz:g<w.heap.size:=hv.out.mine.lt g rfl
 obtain⟨ef,hef⟩:∃ ef,e0.f=ef:=⟨_,rfl⟩
 have hd0:w.cell? ⟨g,0,none⟩=some (.int .i64 (ef:Int)):=by
  have:=(cells_en hcG 0 (by simp)).1
  rw[← hef]
  simpa using this
 have HEF:=Lib.hid hef
 rw[hef] at c1 c2
 obtain⟨gR,offR,oR',capR',hcR,hvR,hoR,hcellR⟩:=hr.row.row
 have hRG:RowG w gR vR σ.R:=⟨offR,oR',capR',hcR,hvR,hoR,hcellR⟩
 obtain⟨_,vb,_,hsl,_,hvb⟩:=hRG.parts ef (by omega)
 obtain⟨_,oR,cpR,hvR2,_,_⟩:=hr.row.shape
 subst hvR2
 obtain⟨hsl2,_⟩:=hr.row.upto ef (by omega)
 have hsl2:∀ u,(Instr.slice 59 (.slice oR σ.R.length cpR) none (some (.int .i64 (ef:Int))) none).run Tryz.prog u=.ok (.slice oR ef cpR) u:=hsl2
 obtain⟨lnR,hlnR⟩:∃ lnR,σ.R.length=lnR:=⟨_,rfl⟩
 have hB0:Below w.heap.size w (w.alloc (.cells #[.pointer (some ⟨b,0,none⟩)] 25)):=(Below.refl _ _).alloc (Nat.le_refl _) _
 have hh0:=heap_alloc_last w (.cells #[.pointer (some ⟨b,0,none⟩)] 25)
 have hs0:(w.alloc (.cells #[.pointer (some ⟨b,0,none⟩)] 25)).heap.size=w.heap.size+1:=World.size_alloc _ _
 obtain⟨W0,hW0⟩:∃ W0,w.alloc (.cells #[.pointer (some ⟨b,0,none⟩)] 25)=W0:=⟨_,rfl⟩
 obtain⟨B0,hBB0⟩:∃ B0,w.heap.size=B0:=⟨_,rfl⟩
 rw[hW0] at hB0 hh0 hs0
 rw[hBB0] at hh0
 have hB1:Below W0.heap.size W0 (W0.alloc (.cells #[.int .i64 (ef:Int)] 3)):=(Below.refl _ _).alloc (Nat.le_refl _) _
 have hh1:=heap_alloc_last W0 (.cells #[.int .i64 (ef:Int)] 3)
 have hs1:(W0.alloc (.cells #[.int .i64 (ef:Int)] 3)).heap.size=W0.heap.size+1:=World.size_alloc _ _
 obtain⟨W1,hW1⟩:∃ W1,W0.alloc (.cells #[.int .i64 (ef:Int)] 3)=W1:=⟨_,rfl⟩
 obtain⟨Ba,hBa⟩:∃ Ba,W0.heap.size=Ba:=⟨_,rfl⟩
 rw[hW1] at hB1 hh1 hs1
 rw[hBa] at hh1 hs1
 have hw1:Below w.heap.size w W1:=hB0.trans (hB1.mono hB0.size)
 obtain⟨T,hT⟩:∃ T,σ.R.drop ef=T:=⟨_,rfl⟩
 have hcl:Hid (∀ u,Below W0.heap.size W0 u→Calls Tryz.prog 131 #[vb] u fun e w'=>∃ v',e=.returned v'∧Mine bt w' u.heap.size v' T∧Below u.heap.size u w'):=Lib.hid (fun u hu=>by rw[← hT];exact cloneB_any ((hvb.row.below hB0).below hu) (by rw[List.length_drop];omega))
 have k0:W0.cell? ⟨B0,0,none⟩=some (.pointer (some ⟨b,0,none⟩)):=(one_at hh0).1
 have d0:W0.cell? ⟨g,0,none⟩=some (.int .i64 (ef:Int)):=(hB0.cell (p:=⟨g,0,none⟩) hgz).trans hd0
 have hr1:=hr.below hw1
 obtain⟨⟨_,_,_,_,g4,_⟩,_⟩:=ten_at hr1.cells
 have g0:W1.cell? ⟨B0,0,none⟩=some (.pointer (some ⟨b,0,none⟩)):=(hB1.cell (p:=⟨B0,0,none⟩) (show B0<W0.heap.size by omega)).trans k0
 obtain⟨g2,_⟩:=one_at hh1
 have q0:B0<W1.heap.size:=by omega
 have q1:b<W1.heap.size:=by omega
 have q2:Ba<W1.heap.size:=by omega
 have hfin:∀ wc Br vc,wc.heap[Br]? = some (.cells #[vc] 59 (0,0))→Mine bt wc W1.heap.size vc T→Below W1.heap.size W1 wc→W1.heap.size≤Br →
   wc.frozen? ⟨b,4,none⟩=false∧∃ (C':Kc) (g':Nat),C'.low=lo∧(∀ w' z,CAt C' w' b z→CAt ⟨C.k,lo⟩ w' b z)∧(∀ w' z,CAt C' w' b z→Cells en w' g 0 (e0::r0))∧CeK C' D vS Br Ba g' σ.R x.rows x.highs (x.bad=false)∧CeS C' (wc.setCell ⟨b,4,none⟩ (.slice oR ef cpR)) b (x.cut ef) D ef σ.L vL vS B0 Br Ba g' ef σ.R (x.bad=false) (fun _ _=>False):=by
  intro wc Br vc e1 e2 e3 e4
  rw[← hT] at e2
  have hwc:Below w.heap.size w wc:=hw1.trans (e3.mono hw1.size)
  have hrc:=hr.below hwc
  obtain⟨_,hfz⟩:=ten_at hrc.cells
  obtain⟨C',g',p1,p2,p3,p4,p5,p6⟩:=ces_start (W3:=wc) (B0:=B0) (Br:=Br) (Ba:=Ba) (a:=ef) (lo:=lo) hr ho hi (by omega) c1 hwc ((e3.block _ q0).trans ((hB1.block _ (by omega)).trans hh0)) e1 (e2.mono hw1.size) ((e3.block _ q2).trans hh1) (by omega) (by omega) (by omega) (by omega)
  exact⟨hfz 4,C',g',p1,p2,fun w' z hz j u hu=>(cell_same (p4 w' z hz g hgK) _).trans (hcG j u hu),p5,p6⟩
 have HFIN:=Lib.hid hfin
 have hyc:cEach x.rows x.highs (e0::r0) ef (x.cut ef)=some y:=by
  have:=hy.out
  cases x with
  |fail d0 d1 d2=>rw[cEachAll] at this;rw[← this];exact cEach_fail _ _ _ _ _
  |ok s=>
   rw[← hef]
   exact this
 have HY:=Lib.hid hyc
 have hfew2:x.bad=false→σ.R.length+(e0::r0).length+σ.L.length≤549755813888:=fun hb=>by
  cases x with
  |fail=>cases hb
  |ok s=>
   have:=hfew s rfl
   have h4:=hi.2.2.2.1.length
   rw[List.length_map] at h4
   rw[h4,hi.2.1]
   exact this
 have HF2:=Lib.hid hfew2
 have HRB:Hid (x.bad=false→x.rows.length=σ.R.length):=Lib.hid (fun hb=>by
  cases x with
  |fail=>cases hb
  |ok s=>
   have h4:=hi.2.2.2.1.length
   rw[List.length_map] at h4
   exact h4.symm)
 have HC3:Hid (Ch ef ((e0::r0).drop 0) C.low):=Lib.hid (by rw[← HEF.out];exact⟨Nat.le_refl _,by rw[HEF.out];exact c2,c3⟩)
 have HLOW:=Lib.hid hlow
 have HFEW:=Lib.hid hfew0
 obtain⟨G,hG⟩:∃ G,e0::r0=G:=⟨_,rfl⟩
 rw[hG] at HY HFIN HF2 HC3 hl0 ⊢
 obtain⟨len,hlen⟩:∃ len,G.length=len:=⟨_,rfl⟩
 have hl1:0<len:=by rw[← hlen,← hG];simp
 have HLN:=Lib.hid hlen
 rw[hlen] at hl0 ⊢
 rw[hlnR] at hsl hsl2 g4
 have hBW:Below W0.heap.size W0 W1:=hB1
 have HB1:=Lib.hid hB1
 have hzz:W0.heap.size≤W1.heap.size:=by omega
 have HZZ:=Lib.hid hzz
 have HLNR:=Lib.hid hlnR
 have h0:B0<W0.heap.size:=by omega
 clear hr1 hr ho hi hvb hRG hcellR hoR hcR hvR hB0 hh0 hs0 hh1 hs1 hw1 hfin hyc hy hch hv hat hfew hfew2 hcG hd0 hef hlen hG hoG hB1 hBW hzz hlow hfew0 c1 c2 c3 c4 hgK hgz hlnR hT
 have hd:decide ((len:Int)=0)=false:=decide_eq_false (by omega)
 have hd2:((len:Int) == 0)=false:=beq_eq_false_iff_ne.2 (by omega)
 go_enter Tryz.func104,Tryz.ntmps104
 go_wp2_with fail
 obtain⟨bad0,hb0⟩:∃ bad0,x.bad=bad0:=⟨_,rfl⟩
 have HB0:=Lib.hid hb0
 rw[hb0] at HFIN HF2 HRB
 clear hb0
 go_cut [7] (fun v wx=>∃ Br vc,v=.pointer (some ⟨Br,0,none⟩)∧wx.heap[Br]? = some (.cells #[vc] 59 (0,0))∧Mine bt wx W1.heap.size vc T∧Below W1.heap.size W1 wx∧W1.heap.size≤Br)
 case first=>
  go_region_law (first|(go_simp;go_at_call 131;refine(hcl.out _ ?_).mono ?_;(first|exact HB1.out.drew|exact HB1.out.drew.alloc HB1.out.drew.size _|exact HB1.out);rintro e w2 ⟨v',rfl,hm2,hb2⟩;obtain⟨_,ov,cv,rfl,_,_⟩:=hm2.shape;(try(have hx7:=box_kept' hb2;obtain⟨y7,z7⟩:=one_at hx7));dsimp only))
  all_goals(go_wp2_with fail;go_meet)
  all_goals(first|exact cutA (by first|exact Below.refl _ _|exact(Below.refl _ _).drew) hm2 hb2|exact cutB (by first|exact(Below.refl _ _).alloc (Nat.le_refl _) _|exact((Below.refl _ _).alloc (Nat.le_refl _) _).drew|exact(Below.refl _ _).drew.alloc (Nat.le_refl _) _) hm2 hb2 hx7)
 case rest=>
  obtain⟨Br,vc,rfl,hbr,hmc,hbc,hzc⟩:=hcut
  obtain⟨y9,C',g',p1,p2,p3,p5,p6⟩:=HFIN.out wc Br vc hbr hmc hbc hzc
  have y0:wc.cell? ⟨B0,0,none⟩=some (.pointer (some ⟨b,0,none⟩)):=(hbc.cell (p:=⟨B0,0,none⟩) q0).trans g0
  have y4:wc.cell? ⟨b,4,none⟩=some (.slice oR lnR cpR):=(hbc.cell (p:=⟨b,4,none⟩) q1).trans g4
  have y2:wc.cell? ⟨Ba,0,none⟩=some (.int .i64 (ef:Int)):=(hbc.cell (p:=⟨Ba,0,none⟩) q2).trans g2
  have r1:b<wc.heap.size:=by have:=hbc.size;omega
  have HP2:=Lib.hid p2
  have HP3:=Lib.hid p3
  have HKK:=Lib.hid p5
  have HSS:=Lib.hid p6
  have HP1:=Lib.hid p1
  clear g0 g2 g4 q0 q1 q2 hcl HFIN hbr hmc hbc hzc p1 p2 p3 p5 p6 k0 d0 hsl
  go_wp2_with fail
  go_region
  go_wp2_with fail
  go_loopw [38] (fun pv wr=>∃ (i a N:Nat) (z:Res),pv=.int .i64 (i:Int)∧i≤len∧N≤a+(if bad0=true then 0 else i)∧Ch a (G.drop i) C.low∧CeS C' wr b z D N σ.L vL vS B0 Br Ba g' a σ.R (bad0=false) (fun _ _=>False)∧cEach x.rows x.highs (G.drop i) a z=some y) (fun pv _=>len - (intOf pv).toNat)
  case atStart=>exact⟨0,ef,ef,x.cut ef,rfl,Nat.zero_le _,by omega,HC3.out,HSS.out.below HKK.out.row (Below.refl _ _).drew,HY.out⟩
  case round=>
   clear y0 y2 y4 y9 r1
   obtain⟨i,a,N,z,rfl,hil,hN,hch,hS,hpl⟩:=hrel
   have HKR:=Lib.hid HKK.out.row
   by_cases hlt:i<len
   ·obtain⟨hiG,hf1,hf2,hch2⟩:=ch_at (lo:=0) hch (by rw[HLN.out];exact hlt)
    have hhi:=hch2.le
    obtain⟨D1,_,hat1⟩:=hS.rd
    obtain⟨c0,c1,c2,c3⟩:=cells_en (HP3.out _ _ hat1.at) i hiG
    rw[List.drop_eq_getElem_cons hiG] at hpl
    obtain⟨⟨f,t,k,is⟩,hen⟩:∃ en0,G[i]=en0:=⟨_,rfl⟩
    rw[hen] at c0 c1 c2 c3 hf1 hf2 hch2 hpl hhi
    simp only[Nat.zero_add] at c0 c1 c2 c3 hf1 hf2 hch2 hhi
    rw[cEach,bind_iff] at hpl
    obtain⟨y1,hy1,hpl⟩:=hpl
    simp only[] at hy1 hpl
    have HPL:=Lib.hid hpl
    have HCH2:=Lib.hid hch2
    have hS2:=hS.box HKR.out #[.int .i64 (f:Int),.int .i64 (t:Int),.int .i64 k,.bool is]
    have hlw:=HLOW.out
    have hfw:=HFEW.out
    have hbd:z.bad=false→bad0=false:=hS.ok
    have hnn:N+(f - a)+σ.L.length≤549755813889∧(z.bad=false→N+(f - a)+σ.L.length≤549755813888)∧N+(f - a)+(t - f)+σ.L.length≤549755813889∧(z.bad=false→N+(f - a)+(t - f)+σ.L.length≤549755813888)∧N+(f - a)+(t - f)≤t+(if bad0=true then 0 else i):=by
     cases bad0 with
     |true=>
      have hz:¬ z.bad=false:=fun h=>by have:=hbd h;cases this
      simp only[if_true] at hN ⊢
      exact⟨by omega,fun h=>absurd h hz,by omega,fun h=>absurd h hz,by omega⟩
     |false=>
      have hl2:=HF2.out rfl
      have hl3:=HLN.out
      simp only[Bool.false_eq_true,if_false] at hN ⊢
      exact⟨by omega,fun _=>by omega,by omega,fun _=>by omega,by omega⟩
    have HNN:=Lib.hid hnn
    have HF12:=Lib.hid (And.intro hf1 (And.intro hf2 hhi))
    have hA1:=hS2.again HKK.out f hf1 (by omega) hnn.1 hnn.2.1
    have HA1:=Lib.hid hA1
    have hd3:decide ((i:Int)<(len:Int))=true:=decide_eq_true (by omega)
    have hd4:decide (i<len)=true:=decide_eq_true hlt
    have hq0:(0:Int)≤(i:Int):=by omega
    have hww:(i:Int)+1≤1099511627777:=by omega
    clear hS hat1 hS2 hA1 hpl hch2 hch hen hnn hN hlw hfw hbd hf1 hf2 hhi
    go_wp2_with fail
    go_at_call 132
    (with_reducible refine HA1.out.mono ?_)
    rintro e w3 ⟨v3,rfl,hS3⟩
    have hx3:=hS3.ge _ _ ⟨rfl,rfl⟩
    have b1:w3.cell? ⟨wr.heap.size,1,none⟩=some (.int .i64 (t:Int)):=by rw[cell_of_row w3 _ 1 _ _ _ hx3];rfl
    have hr3:=(one_at hS3.h0).1
    have HA2:=Lib.hid (hS3.again HKK.out t HF12.out.2.1 (by have:=HF12.out;have:=HLOW.out;omega) HNN.out.2.2.1 (fun h=>HNN.out.2.2.2.1 (by rw[back_bad] at h;exact h)))
    have HMK:=Lib.hid hS3.mark
    clear hx3 hS3 c0 c1 c2 c3
    go_wp2_with (first|(go_at_call 61;refine HMK.out.mono ?_;rintro e w4 ⟨n,rfl,hn1,hn2,hn3,rfl⟩;have HN3:=Lib.hid (And.intro hn2 hn3);clear hn1 hn2 hn3))
    go_at_call 132
    (with_reducible refine HA2.out.mono ?_)
    rintro e w5 ⟨v5,rfl,hS5⟩
    have hr5:=(one_at hS5.h0).1
    have HCL2:=Lib.hid (hS5.round (i:=i) HKR.out (n:Int) _ 233 (fun h=>by rw[back_bad] at h;have:=HN3.out.1 h;omega) (fun h=>by rw[back_bad] at h;have:=HN3.out.1 h;have:=HN3.out.2;omega) hy1 HNN.out.2.2.2.2)
    clear hS5 hr3 b1
    go_wp2_with (first|(go_at_call 37;refine HCL2.out.mono ?_;rintro e w6 ⟨v6,N6,rfl,hN6,hS6⟩))
    go_roundw
    case rel=>exact⟨i+1,t,N6,y1,by go_num,by omega,hN6,HCH2.out,⟨hS6.rd,hS6.h0,hS6.h1,hS6.h2,hS6.ok,fun _ _ h=>h.elim⟩,HPL.out⟩
    case measure=>simp [intOf];omega
   ·have hG:G.drop i=[]:=List.drop_of_length_le (by rw[HLN.out];omega)
    rw[hG] at hpl hch
    rw[cEach] at hpl
    have hpl:z.back x.rows x.highs a x.rows.length=y:=Option.some.inj hpl
    have hac:a≤C.low:=hch
    have hlw:=HLOW.out
    have hfw:=HFEW.out
    have hnn:N+(σ.R.length - a)+σ.L.length≤549755813889∧(z.bad=false→N+(σ.R.length - a)+σ.L.length≤549755813888):=by
     have hbd:z.bad=false→bad0=false:=hS.ok
     cases bad0 with
     |true=>
      have hz:¬ z.bad=false:=fun h=>by have:=hbd h;cases this
      simp only[if_true] at hN
      exact⟨by omega,fun h=>absurd h hz⟩
     |false=>
      have hl2:=HF2.out rfl
      have hl3:=HLN.out
      simp only[Bool.false_eq_true,if_false] at hN
      exact⟨by omega,fun _=>by omega⟩
    have hyy:z.back x.rows x.highs a σ.R.length=y:=by
     cases hz:z.bad with
     |false=>rw[← HRB.out (hS.ok hz)];exact hpl
     |true=>
      cases z with
      |ok s=>cases hz
      |fail=>exact hpl
    obtain⟨oR2,n2,cp2,o2,nr2,cr2,e0',e1',e4',hap⟩:=hS.last HKK.out hnn.1 hnn.2
    rw[hyy] at hap
    have HAP:=Lib.hid hap
    have hd3:decide ((i:Int)<(len:Int))=false:=decide_eq_false (by omega)
    have hd4:decide (i<len)=false:=decide_eq_false hlt
    clear hap hS hpl hch hG hnn hyy hlw hfw hN
    go_wp2_with fail
    go_region_law (first|((first|refine step_append_ex rfl _ _ _ _ rfl _ _ rfl rfl (HAP.out _ ?_) ?_|refine step_append_wp _ _ _ _ rfl _ _ rfl rfl (HAP.out _ ?_) ?_);(first|exact(Below.refl _ _).drew|exact Below.refl _ _);rintro v' w' ⟨⟨o',l',c',rfl⟩,d0,d4,f4,hcat⟩;have HCAT:=Lib.hid (HP2.out _ _ hcat);clear hcat))
    all_goals(go_wp2_with fail)
    all_goals go_end0
    all_goals exact⟨_,rfl,HCAT.out⟩
open Go.RowKit
theorem centries_f {C0:Kc} {w:World} {b:Nat} {d0 d1 d2:Int} (hat0:Hid (CAt C0 w b (.fail d0 d1 d2))):Calls Tryz.prog 99 #[.pointer (some ⟨b,0,none⟩)] w (EntsPost C0 b w.heap.size 1 (.fail d0 d1 d2) []):=by
 obtain⟨hEs,hats⟩:=Ext.startC hat0.out (Below.refl w.heap.size w)
 obtain⟨B,hB⟩:∃ B,w.heap.size=B:=⟨_,rfl⟩
 obtain⟨C1,hC1⟩:∃ C1:Kc,(⟨⟨w,fun k=>C0.k.K k∨(w.heap.size≤k∧k<w.heap.size)⟩,C0.low⟩:Kc)=C1:=⟨_,rfl⟩
 have hE:Hid (Ext C0.k C1.k B):=Lib.hid (by rw[← hB,← hC1];exact hEs)
 have hat:Hid (CAt C1 w b (.fail d0 d1 d2)):=Lib.hid (by rw[← hC1];exact hats)
 obtain⟨T,hT⟩:∃ T:List En,T=[]:=⟨_,rfl⟩
 have HRT:Hid (True∧True∧Ch C0.low T C1.low):=Lib.hid ⟨trivial,trivial,by rw[hT,← hC1];exact Nat.le_refl _⟩
 have hTk:T.length=0:=by rw[hT];rfl
 have HNIL:Hid (HeldC C1.k w B (.slice none 0 0) en T):=Lib.hid (by rw[hT];exact⟨Mine.nil _ _,fun k hk=>by simp [Value.ownBlock] at hk⟩)
 rw[hB]
 clear hEs hats hat0 hB hC1 hT
 go_enter Tryz.func99,Tryz.ntmps99
 go_wp2_with fail
 go_loopw [3] (fun p wr=>p=.slice none 0 0∧wr=w) (fun _ _=>0)
 case atStart=>exact⟨rfl,rfl⟩
 case round=>
  obtain⟨rfl,rfl⟩:=hrel
  obtain⟨vl,hvl⟩:∃ vl,Value.slice none 0 0=vl:=⟨_,rfl⟩
  rw[hvl] at HNIL ⊢
  have hHe:=HNIL
  clear hvl HNIL
  have hk0:(Res.fail d0 d1 d2).kind=0:=rfl
  have hnm:(Res.fail d0 d1 d2).named=false:=rfl
  go_wp2_with (go_at_call 57;first|(refine(ckind_is ‹_› ‹_›).mono ?_;rintro e w1 ⟨rfl,hat1⟩)|(refine(ckind_at ‹_›).mono ?_;rintro e w1 ⟨rfl,hat1⟩))
  obtain⟨v0,hv0,hv0f,HM0,hat0,hv0s'⟩:=cmark_raise hat1
  have hv0s:=Lib.hid hv0s'
  clear hv0s'
  have HN0:=Lib.hid (cnamed_at hat0)
  rw[hnm] at HN0
  go_wp2_with (first|(go_at_call 61;refine HM0.out.mono ?_;rintro e w2 ⟨rfl,rfl⟩)|(go_at_call 128;refine HN0.out.mono ?_;rintro e w3 ⟨rfl,hat3⟩))
  have hHe3:=HeldC.call (C':=⟨C1.k,v0⟩) hHe.out hat.out rfl hat3.out
  have hbl4:Below w3.heap.size w3 (w3.alloc (.cells #[.int .i64 (v0:Int),.int .i64 0,.int .i64 0,.bool false] 94)):=(Below.refl _ _).alloc (Nat.le_refl _) _
  obtain⟨hE4,hat4⟩:=Ext.startC hat3.out hbl4
  have hHe4:=Lib.hid (hHe3.start hbl4)
  have hbx:=heap_alloc_last w3 (.cells #[.int .i64 (v0:Int),.int .i64 0,.int .i64 0,.bool false] 94)
  have hz4:w3.heap.size<(w3.alloc (.cells #[.int .i64 (v0:Int),.int .i64 0,.int .i64 0,.bool false] 94)).heap.size:=by rw[World.size_alloc];omega
  obtain⟨C4,hC4⟩:∃ C4:Kc,(⟨⟨(w3.alloc (.cells #[.int .i64 (v0:Int),.int .i64 0,.int .i64 0,.bool false] 94)),fun k=>C1.k.K k∨(w3.heap.size≤k∧k<(w3.alloc (.cells #[.int .i64 (v0:Int),.int .i64 0,.int .i64 0,.bool false] 94)).heap.size)⟩,v0⟩:Kc)=C4:=⟨_,rfl⟩
  have hK4:C4.k.K w3.heap.size:=by rw[← hC4];exact .inr ⟨Nat.le_refl _,hz4⟩
  have hW4:C4.k.W=(w3.alloc (.cells #[.int .i64 (v0:Int),.int .i64 0,.int .i64 0,.bool false] 94)):=by rw[← hC4]
  have hL4:C4.low=v0:=by rw[← hC4]
  have hE5:Hid (Ext C0.k C4.k B):=Lib.hid (by rw[← hC4];exact hE.out.trans hE4)
  have hat4:Hid (CAt C4 (w3.alloc (.cells #[.int .i64 (v0:Int),.int .i64 0,.int .i64 0,.bool false] 94)) b (.fail d0 d1 d2)):=Lib.hid (by rw[← hC4];exact hat4)
  have hHe4:Hid (HeldC C4.k (w3.alloc (.cells #[.int .i64 (v0:Int),.int .i64 0,.int .i64 0,.bool false] 94)) B vl en T):=by rw[← hC4];exact hHe4
  have hBB:B≤w3.heap.size:=by
   have h1:=hE.out.base.2
   have h2:=hat3.out.size
   exact Nat.le_trans h1 h2
  clear hC4 hE4 hbl4 hHe3
  go_wp2_with (first|(go_at_call 47;refine(cname_at ‹_› hy0).mono ?_;rintro e w' ⟨v,rfl,hat5⟩)|(go_at_call 129;refine(cdotted_f _ _ _ _ _ _ ‹_›).mono ?_;rintro e w5 ⟨v,rfl,hat5⟩))
  obtain⟨v1,hv1,hv1f,HM1,hat6,hv1s'⟩:=cmark_raise hat5
  have hv1s:=Lib.hid hv1s'
  clear hv1s'
  go_wp2_with (go_at_call 61;refine HM1.out.mono ?_;rintro e w6 ⟨rfl,rfl⟩)
  go_at_call 63
  refine(clast_at hat6).mono ?_
  rintro e w7 ⟨rfl,hat7⟩
  have hb7:w7.heap[w3.heap.size]? = some (.cells #[.int .i64 (v0:Int),.int .i64 0,.int .i64 0,.bool false] 94 (0,0)):=by
   have h1:=(hat7.out.kept w3.heap.size hK4).1
   have h1:w7.heap[w3.heap.size]? = C4.k.W.heap[w3.heap.size]?:=h1
   rw[h1,hW4]
   exact hbx
  have hHe7:=Lib.hid (HeldC.call (C':=⟨C4.k,v1⟩) hHe4.out hat4.out rfl hat7.out)
  have hvne:vl.ownBlock≠some w3.heap.size:=fun e=>by have h8:=(hat.out.kept _ (hHe.out.held _ e)).2;have h9:C1.k.W.heap.size≤w3.heap.size:=hat3.out.size;omega
  obtain⟨lk,hlk⟩:∃ lk,(Res.fail d0 d1 d2).last=lk:=⟨_,rfl⟩
  rw[hlk]
  obtain⟨B1,hB1⟩:∃ B1,w3.heap.size=B1:=⟨_,rfl⟩
  rw[hB1] at hb7 hvne hK4 hBB
  have hs8:∀ k,k≠B1→((w7.setCell ⟨B1,1,none⟩ (.int .i64 (v1:Int))).setCell ⟨B1,2,none⟩ (.int .i64 lk)).heap[k]? = w7.heap[k]?:=fun k hk=>by rw[set_one _ _ _ _ _ hk,set_one _ _ _ _ _ hk]
  have hat8:Hid (CAt ⟨⟨(w7.setCell ⟨B1,1,none⟩ (.int .i64 (v1:Int))).setCell ⟨B1,2,none⟩ (.int .i64 lk),C4.k.K⟩,v1⟩ ((w7.setCell ⟨B1,1,none⟩ (.int .i64 (v1:Int))).setCell ⟨B1,2,none⟩ (.int .i64 lk)) b (Res.fail d0 d1 d2)):=CAt.wrote hat7 hK4 ⟨_,_,_,hb7,by decide,by decide,by decide⟩ hs8 (by rw[size_set,size_set])
  have hHe8:HeldC ⟨(w7.setCell ⟨B1,1,none⟩ (.int .i64 (v1:Int))).setCell ⟨B1,2,none⟩ (.int .i64 lk),C4.k.K⟩ ((w7.setCell ⟨B1,1,none⟩ (.int .i64 (v1:Int))).setCell ⟨B1,2,none⟩ (.int .i64 lk)) B vl en T:=hHe7.out.same (fun k hk=>hs8 k (fun e=>hvne (by rw[← e];exact hk))) (fun k hk=>hk)
  have hE8:Ext C0.k ⟨(w7.setCell ⟨B1,1,none⟩ (.int .i64 (v1:Int))).setCell ⟨B1,2,none⟩ (.int .i64 lk),C4.k.K⟩ B:=ext_now hE5.out hat7.out (C':=⟨C4.k,v1⟩) rfl hs8 (by rw[size_set,size_set]) (fun k hk=>by rintro rfl;have:=(hE5.out.kept _ hk).1;omega) rfl rfl rfl
  obtain⟨va,wa,hra,C9,hE9,hL9,hat9,hHe9,_⟩:=HeldC.push (F:=en) (C:=C0) (C1:=⟨⟨(w7.setCell ⟨B1,1,none⟩ (.int .i64 (v1:Int))).setCell ⟨B1,2,none⟩ (.int .i64 lk),C4.k.K⟩,v1⟩) (by decide) hE8 hat8.out hHe8 (by omega) (by decide) ⟨v0,v1,lk,false⟩
  have hra':∀ ty,(Builtin.append_ #[90,90] ty #[vl,.slice (some ⟨w7.heap.size,0,none⟩) 1 1]).run Tryz.prog (((w7.setCell ⟨B1,1,none⟩ (.int .i64 (v1:Int))).setCell ⟨B1,2,none⟩ (.int .i64 lk)).alloc (.cells #[.int .i64 (v0:Int),.int .i64 (v1:Int),.int .i64 lk,.bool false] 94))=.ok va wa:=by
   have h9:=hra
   rw[size_set,size_set] at h9
   exact h9
  have HRA:=Lib.hid hra'
  clear hra'
  have f7:=frozen_of_row w7 B1 1 _ _ hb7
  have f8:=frozen_of_row w7 B1 2 _ _ hb7
  have y0:w7.cell? ⟨B1,0,none⟩=some (.int .i64 (v0:Int)):=by rw[cell_of_row w7 _ 0 _ _ _ hb7];rfl
  have y1':w7.cell? ⟨B1,1,none⟩=some (.int .i64 0):=by rw[cell_of_row w7 _ 1 _ _ _ hb7];rfl
  have y2:w7.cell? ⟨B1,2,none⟩=some (.int .i64 0):=by rw[cell_of_row w7 _ 2 _ _ _ hb7];rfl
  have y3:w7.cell? ⟨B1,3,none⟩=some (.bool false):=by rw[cell_of_row w7 _ 3 _ _ _ hb7];rfl
  have hat9h:=Lib.hid hat9
  have hHe9h:=Lib.hid hHe9
  have hE9h:=Lib.hid hE9
  have hF:=Lib.hid (And.intro hv0 (And.intro hv1 (And.intro hv0s.out (And.intro hv1s.out (And.intro hL4 hL9)))))
  clear hra hat9 hHe9 hE9 hE8 hHe8 hs8 hb7 hvne hv0 hv1 hv0s hv1s hL4 hL9 hW4 hbx hat0 hat6
  have hno60:((Res.fail d0 d1 d2).kind == 60)=false:=rfl
  go_wp2_with (first|(at_builtin;refine Lib.wpList_append_run _ rfl _ _ _ _ rfl _ _ rfl rfl _ _ (HRA.out _) ?_)|(go_at_call 83;(with_reducible refine(ccame_no hat9h hno60).mono ?_);rintro e w10 ⟨rfl,hat10⟩))
  go_ret
  have hFo:=hF.out
  exact⟨_,C9,_,rfl,hE9h,Lib.hid (by rw[hFo.2.2.2.2.2];exact Ch.snoc HRT.out.2.2 hFo.1 (by show v0≤v1;have:=hFo.2.1;omega) (Nat.le_refl _)),by rw[List.length_append];show T.length+1≤1;omega,hat10,Lib.hid (hHe9h.out.call hat9h.out rfl hat10.out),Lib.hid (fun s e=>by cases e)⟩
open Go.RowKit
theorem CAt.lower {C:Kc} {w:World} {b lo:Nat} {x:Res} (h:CAt C w b x) (hl:lo≤C.low):CAt ⟨C.k,lo⟩ w b x:=by
 obtain⟨vL,vS,vR,σ,D,hr,ho,hi⟩:=h
 refine⟨vL,vS,vR,σ,D,hr,ho,?_⟩
 cases x with
 |fail a0 a1 a2=>
  obtain⟨i1,i2,i3,i4,i5,i6,i7⟩:=hi
  exact⟨i1,i2,i3,i4,i5,i6,Nat.le_trans hl i7⟩
 |ok s=>
  obtain⟨i1,i2,i3,i4,i5,i6,i7,i8,i9,i10⟩:=hi
  exact⟨i1,i2,i3,i4,i5,i6,i7,i8,i9,Nat.le_trans hl i10⟩
theorem ccloseEach_any {C:Kc} {w:World} {b:Nat} {x y:Res} {B:Nat} {v:Value} {G:List En} {lo:Nat} (hat:Hid (CAt C w b x)) (hv:Hid (HeldC C.k w B v en G)) (hch:Hid (Ch lo G C.low)) (hy:Hid (cEachAll G x=some y)) (hfew:∀ s,x=.ok s→s.R.length+G.length+s.L.length≤549755813888) (hl0:G.length≤1099511627776) :
  Calls Tryz.prog 104 #[.pointer (some ⟨b,0,none⟩),v,.int .i64 233] w (CPost ⟨C.k,lo⟩ b y):=by
 cases G with
 |cons e0 r0=>exact ccloseEach_cons hat hv hch hy hfew hl0
 |nil=>
  have hyx:y=x:=by
   have:=hy.out
   cases x with
   |fail=>exact(Option.some.inj this).symm
   |ok s=>exact(Option.some.inj this).symm
  subst hyx
  obtain⟨g,o,cap,hv',_,_⟩:=hv.out.mine.shape
  subst hv'
  have hfin:=hat.out.lower hch.out
  have HF:Hid (CAt ⟨C.k,lo⟩ (w.alloc (.cells #[.pointer (some ⟨b,0,none⟩)] 25)) b y):=CAt.alloc (Lib.hid hfin) _
  clear hat hv hch hy hfew hl0 hfin
  go_enter Tryz.func104,Tryz.ntmps104
  go_wp2_with fail
  go_end0
  exact⟨_,rfl,HF⟩
theorem params_plain {T:List En} {lf:List Ent} {yf y:Res} {m':Nat} (hfin:rFinish m' lf yf=some y) (hM:∀ s,yf=.ok s→T.map En.ent=lf∧∀ e∈T,e.is=false→Kof s.R e) :
  ∃ y2 y3 y4,((T.any En.is=true∧fitE T=false)→Hid (rFail 201 yf=some y2))∧(¬ (T.any En.is=true∧fitE T=false)→y2=yf)∧Hid (cEachAll (if T.any En.is=true then grp (nxF 0 T) T else T) y2=some y3)∧Hid (rExpect 62 y3=some y4)∧Hid (rClose (m':Int) 232 y4=some y)∧(∀ s,y2=.ok s→s.R.length+T.length+s.L.length≤549755813888):=by
 cases yf with
 |fail d0 d1 d2=>
  obtain rfl:=Option.some.inj (show some (Res.fail d0 d1 d2)=some y from hfin)
  exact⟨.fail d0 d1 d2,.fail d0 d1 d2,.fail d0 d1 d2,fun _=>Lib.hid rfl,fun _=>rfl,Lib.hid rfl,Lib.hid rfl,Lib.hid rfl,fun s e=>by cases e⟩
 |ok s=>
  obtain⟨rfl,hK⟩:=hM s rfl
  unfold rFinish at hfin
  simp only[] at hfin
  split at hfin
  ·rename_i hw
   rw[Bool.and_eq_true,decide_eq_true_iff,List.length_map] at hw
   have hany:(T.map En.ent).any (·.is)=T.any En.is:=by rw[List.any_map];rfl
   rw[hany] at hfin
   split at hfin
   ·rename_i hu
    rw[Bool.and_eq_true] at hu
    have hne:T≠[]:=by rintro rfl;simp at hu
    obtain⟨d0,d1,d2,rfl⟩:=rFail_bad hfin
    refine⟨.fail d0 d1 d2,.fail d0 d1 d2,.fail d0 d1 d2,fun _=>Lib.hid hfin,fun h=>?_,Lib.hid rfl,Lib.hid rfl,Lib.hid rfl,fun s e=>by cases e⟩
    exact absurd ⟨hu.1,by rw[fit_unfit T hne hK,hu.2];rfl⟩ h
   ·rename_i hu
    obtain⟨y3,hy3,hfin⟩:=bind_some hfin
    obtain⟨y4,hy4,hfin⟩:=bind_some hfin
    have hun:T.any En.is=true→unfit s.R (T.map En.ent)=false:=fun ha=>by
     cases h:unfit s.R (T.map En.ent) with
     |false=>rfl
     |true=>exact absurd (by rw[ha,h];rfl) hu
    have hge:=group_each hw.1 hun hK hy3.out
    refine⟨.ok s,y3,y4,fun h=>?_,fun _=>rfl,Lib.hid hge,hy4,Lib.hid hfin,fun s' e=>by cases e;exact hw.2⟩
    have hne:T≠[]:=by rintro rfl;simp at h
    have h2:=fit_unfit T hne hK
    rw[hun h.1,h.2] at h2
    cases h2
  ·cases hfin
open Go.RowKit
theorem ch_start {C:Kc} {T:List En} {e0:En} {r0:List En} {lo hi:Nat} (hT:T=e0::r0) (h:Ch lo T hi):Ch lo (grp e0.f (e0::r0)) hi:=by
 have _:=C
 subst hT
 have h1:=h.1
 exact Ch.grp.Ch.lower (Ch.grp (e0::r0) e0.f hi e0.f ⟨Nat.le_refl _,h.2.1,h.2.2⟩ (Nat.le_refl _)) h1
theorem held_new {α:Type} {F:Kd α} {C0 C1:Kc} {w w':World} {B b:Nat} {x:Res} {v:Value} {T:List α} (he:Ext C0.k C1.k B) (hat:CAt C1 w b x) (hb:Below w.heap.size w w') (hm:Mine F w' w.heap.size v T):∃ C2:Kc,C2.low=C1.low∧Ext C0.k C2.k B∧CAt C2 w' b x∧HeldC C2.k w' w.heap.size v F T:=by
 obtain⟨h1,h2⟩:=Ext.startC hat hb
 exact⟨⟨⟨w',fun k=>C1.k.K k∨(w.heap.size≤k∧k<w'.heap.size)⟩,C1.low⟩,rfl,he.trans h1,h2,hm,fun k hk=>.inr (World.ownsRow.lt hm k hk)⟩
theorem cparams_core {C:Kc} {w:World} {b N m':Nat} {x y z1 yf:Res} {lf:List Ent} (hN:N≤1099511627776) (hat:Hid (CAt C w b x)) (hz1:Hid (rExpect 57 x=some z1)) (hent:∀ w2,Hid (CAt C w2 b z1)→Calls Tryz.prog 99 #[.pointer (some ⟨b,0,none⟩)] w2 (EntsPost C b w2.heap.size N yf lf)) (hfin:Hid (rFinish m' lf yf=some y)) (hm:∀ s,x=.ok s→m'=s.R.length) (hbad:x.bad=true→yf.bad=true) :
  Calls Tryz.prog 53 #[.pointer (some ⟨b,0,none⟩)] w (CPost C b y):=by
 obtain⟨v0,hv0,hv0f,HM0,_,hv0s⟩:=cmark_raise hat
 have HV0:=Lib.hid (And.intro hv0 hv0s)
 have HENT:=Lib.hid hent
 have HBAD:=Lib.hid (And.intro hbad hm)
 have hzz:∀ k,C.k.K k→k<C.k.W.heap.size:=fun k hk=>(hat.out.kept k hk).2
 have HZZ:=Lib.hid hzz
 clear hv0 hv0s hent hbad hm hzz
 go_enter Tryz.func53,Tryz.ntmps53
 go_wp2_with (first|(go_at_call 61;refine HM0.out.mono ?_;rintro e w' ⟨rfl,rfl⟩)|(go_at_call 33;refine(cexpect_at hat _ hz1).mono ?_;rintro e w1 ⟨rfl,hat1⟩))
 go_at_call 99
 refine(HENT.out _ hat1).mono ?_
 rintro e w2 ⟨v,C1,T,rfl,hE,hCh,hTl,hat2,hHe,hM⟩
 obtain⟨y2,y3,y4,hp1,hp2,hp3,hp4,hp5,hp6⟩:=params_plain hfin.out hM.out
 have HCF:=Lib.hid (ccontainsFunc_any hHe.out.mine.row (by omega))
 have HP:=Lib.hid (And.intro hp1 (And.intro hp2 hp6))
 have HMM:Hid (y4.bad=false→v0=m'):=Lib.hid (fun h=>by
  cases x with
  |ok s=>exact(HV0.out.2 s rfl).trans (HBAD.out.2 s rfl).symm
  |fail d0 d1 d2=>
   exfalso
   have h1:=HBAD.out.1 rfl
   have h2:y2.bad=true:=by
    by_cases hc:T.any En.is=true∧fitE T=false
    ·exact bd_lift (hp1 hc).out h1
    ·rw[hp2 hc];exact h1
   have h3:y3.bad=true:=by
    have:=hp3.out
    cases y2 with
    |ok s=>cases h2
    |fail a0 a1 a2=>obtain rfl:=Option.some.inj (show some (Res.fail a0 a1 a2)=some y3 from this);rfl
   have h4:=bd_expect hp4 h3
   rw[h] at h4
   cases h4)
 clear hp1 hp2 hp6 hM
 cases hany:T.any En.is with
 |false=>
  rw[hany] at HCF hp3
  rw[if_neg (by simp)] at hp3
  have hy2:y2=yf:=HP.out.2.1 (fun h=>by rw[hany] at h;cases h.1)
  have HP6:=Lib.hid HP.out.2.2
  subst hy2
  clear HP
  go_wp2_with (go_at_call 100;refine HCF.out.mono ?_;rintro e w3 ⟨rfl,hb3⟩)
  have hat3:=CAt.below hat2 hb3
  have hHe3:=Lib.hid (HeldC.call hHe.out hat2.out rfl hat3.out)
  have HCE:=Lib.hid (ccloseEach_any (lo:=C.low) hat3 hHe3 hCh hp3 HP6.out (by omega))
  go_at_call 104
  refine HCE.out.mono ?_
  rintro e w4 ⟨v4,rfl,hat4⟩
  have hat5:Hid (CAt C w4 b y3):=Lib.hid (CAt.back (C1:=⟨C1.k,C.low⟩) hE.out rfl hat4.out HZZ.out)
  go_wp2_with (first|(go_at_call 33;refine(cexpect_at hat5 _ hp4).mono ?_;rintro e w5 ⟨rfl,hat6⟩)|(go_at_call 37;refine(cclose_at _ _ _ _ _ _ (m':Int) _ hat6 (fun h=>by have:=HMM.out h;omega) (fun h=>by have:=HMM.out h;have:=HV0.out.1;omega) hp5).mono ?_;rintro e w6 ⟨v6,rfl,hat7⟩))
  go_end0
  exact⟨_,rfl,hat7⟩
 |true=>
  rw[hany] at HCF hp3
  rw[if_pos rfl] at hp3
  cases hT:T with
  |nil=>rw[hT] at hany;cases hany
  |cons e0 r0=>
   rw[hT] at hp3 hHe hTl HP hCh hany
   have hp3:Hid (cEachAll (grp e0.f (e0::r0)) y2=some y3):=hp3
   have hgl:=grp_len (e0::r0) e0.f
   have HGL:=Lib.hid hgl
   have HCG:=Lib.hid (ch_start (C:=C) rfl hCh.out)
   clear hgl hCh hT
   go_wp2_with (go_at_call 100;refine HCF.out.mono ?_;rintro e w3 ⟨rfl,hb3⟩)
   have hat3:=CAt.below hat2 hb3
   have hHe3:=Lib.hid (HeldC.call hHe.out hat2.out rfl hat3.out)
   have HFI:=Lib.hid (cfit_any hHe3.out.mine.row (by omega) (by simp))
   cases hfit:fitE (e0::r0) with
   |true=>
    rw[hfit] at HFI
    have hy2:y2=yf:=HP.out.2.1 (fun h=>by rw[hfit] at h;cases h.2)
    have HP6:=Lib.hid HP.out.2.2
    subst hy2
    clear HP
    go_wp2_with (go_at_call 102;refine HFI.out.mono ?_;rintro e w4 ⟨rfl,hb4⟩;have hat4:=CAt.below hat3 hb4;have hHe4:=Lib.hid (HeldC.call hHe3.out hat3.out rfl hat4.out);have HGR:=Lib.hid (cgrouped_any hHe4.out.mine.row (by omega) (by simp)))
    go_at_call 103
    refine HGR.out.mono ?_
    rintro e w5 ⟨v5,rfl,hm5,hb5⟩
    obtain⟨C2,hL2,hE2,hat5,hHe5⟩:=held_new hE.out hat4.out hb5 hm5
    have HCE:=Lib.hid (ccloseEach_any (lo:=C.low) (Lib.hid hat5) (Lib.hid hHe5) (Lib.hid (by rw[hL2];exact HCG.out)) hp3 (fun s hs=>by have:=HP6.out s hs;have h9:(grp (e0::r0)[0].f (e0::r0)).length≤(e0::r0).length:=HGL.out;omega) (by have h9:(grp (e0::r0)[0].f (e0::r0)).length≤(e0::r0).length:=HGL.out;omega))
    have HE2:=Lib.hid hE2
    clear hE2 hat5 hHe5 hL2 hm5 hb5
    go_wp2_with fail
    go_at_call 104
    refine HCE.out.mono ?_
    rintro e w6 ⟨v6,rfl,hat6⟩
    have hat7:Hid (CAt C w6 b y3):=Lib.hid (CAt.back (C1:=⟨C2.k,C.low⟩) HE2.out rfl hat6.out HZZ.out)
    go_wp2_with (first|(go_at_call 33;refine(cexpect_at hat7 _ hp4).mono ?_;rintro e w7 ⟨rfl,hat8⟩)|(go_at_call 37;refine(cclose_at _ _ _ _ _ _ (m':Int) _ hat8 (fun h=>by have:=HMM.out h;omega) (fun h=>by have:=HMM.out h;have:=HV0.out.1;omega) hp5).mono ?_;rintro e w8 ⟨v8,rfl,hat9⟩))
    go_end0
    exact⟨_,rfl,hat9⟩
   |false=>
    rw[hfit] at HFI
    have hy2:=HP.out.1 ⟨hany,hfit⟩
    have HP6:=Lib.hid HP.out.2.2
    clear HP
    go_wp2_with (first|(go_at_call 102;refine HFI.out.mono ?_;rintro e w4 ⟨rfl,hb4⟩;have hat4:=CAt.below hat3 hb4;have hHe4:=Lib.hid (HeldC.call hHe3.out hat3.out rfl hat4.out))|(go_at_call 45;refine(cfail_at hat4 _ hy2).mono ?_;rintro e w5 ⟨v5,rfl,hat5⟩;have hHe5:=Lib.hid (HeldC.call hHe4.out hat4.out rfl hat5.out);have HGR:=Lib.hid (cgrouped_any hHe5.out.mine.row (by omega) (by simp))))
    go_at_call 103
    refine HGR.out.mono ?_
    rintro e w6 ⟨v6,rfl,hm6,hb6⟩
    obtain⟨C2,hL2,hE2,hat6,hHe6⟩:=held_new hE.out hat5.out hb6 hm6
    have HCE:=Lib.hid (ccloseEach_any (lo:=C.low) (Lib.hid hat6) (Lib.hid hHe6) (Lib.hid (by rw[hL2];exact HCG.out)) hp3 (fun s hs=>by have:=HP6.out s hs;have h9:(grp (e0::r0)[0].f (e0::r0)).length≤(e0::r0).length:=HGL.out;omega) (by have h9:(grp (e0::r0)[0].f (e0::r0)).length≤(e0::r0).length:=HGL.out;omega))
    have HE2:=Lib.hid hE2
    clear hE2 hat6 hHe6 hL2 hm6 hb6
    go_wp2_with fail
    go_at_call 104
    refine HCE.out.mono ?_
    rintro e w7 ⟨v7,rfl,hat7⟩
    have hat8:Hid (CAt C w7 b y3):=Lib.hid (CAt.back (C1:=⟨C2.k,C.low⟩) HE2.out rfl hat7.out HZZ.out)
    go_wp2_with (first|(go_at_call 33;refine(cexpect_at hat8 _ hp4).mono ?_;rintro e w8 ⟨rfl,hat9⟩)|(go_at_call 37;refine(cclose_at _ _ _ _ _ _ (m':Int) _ hat9 (fun h=>by have:=HMM.out h;omega) (fun h=>by have:=HMM.out h;have:=HV0.out.1;omega) hp5).mono ?_;rintro e w9 ⟨v9,rfl,hat10⟩))
    go_end0
    exact⟨_,rfl,hat10⟩
theorem cParams_f:∀ (C:Kc) (w:World) (b:Nat) (d0 d1 d2:Int),Hid (CAt C w b (.fail d0 d1 d2))→Calls Tryz.prog 53 #[.pointer (some ⟨b,0,none⟩)] w (CPost C b (.fail d0 d1 d2)):=fun C w b d0 d1 d2 hat=>
 cparams_core (N:=1) (m':=0) (z1:=.fail d0 d1 d2) (yf:=.fail d0 d1 d2) (lf:=[]) (by decide) hat (Lib.hid rfl) (fun w2 h2=>centries_f h2) (Lib.hid rfl) (fun s e=>by cases e) (fun _=>rfl)
theorem cParams_s {n:Nat} (hn:n≤1099511627776) (ih:∀ k,k≤n→AllC k):P0 53 (n+1) .params:=by
 intro C w b x y hat hy
 cases x with
 |fail d0 d1 d2=>
  have hy:=hy.out
  rw[run_fail] at hy
  obtain rfl:=Option.some.inj hy
  exact cParams_f _ _ _ _ _ _ hat
 |ok s=>
  have hy:=hy.out
  rw[run] at hy
  try dsimp only at hy
  rw[bind_iff] at hy
  obtain⟨z1,hz1,hy⟩:=hy
  rw[bind_iff] at hy
  obtain⟨⟨yf,lf⟩,hz2,hy⟩:=hy
  exact cparams_core hn hat hz1 (fun w2 h2=>centries_s hn ih h2 hz2) (Lib.hid hy) (fun s' e=>by cases e;rfl) (fun h=>by cases h)
open Go.RowKit
theorem cbinary_s {n:Nat} (ih:∀ k,k≤n→AllC k):PBin 71 (n+1):=by
 intro C w b x y p h hat hy
 have hy:=hy.out
 cases x with
 |fail d0 d1 d2=>
  rw[run_fail] at hy
  obtain rfl:=Option.some.inj hy
  exact cbinary_f _ _ _ _ _ _ _ _ hat
 |ok s=>
  have hlo:C.low≤s.R.length:=low_nat hat
  rw[run] at hy
  rw[bind_iff] at hy
  obtain⟨z1,hz1,hy⟩:=hy
  replace hy:=Lib.hid hy
  go_enter Tryz.func71,Tryz.ntmps71
  go_wp2_with (first|(go_at_call 61;first|(refine(cmark_at ‹_›).mono ?_;rintro e w' ⟨rfl,rfl⟩)|(refine(cmark_bad ‹_›).mono ?_;rintro e w' ⟨⟨v,_,rfl⟩,rfl⟩))|(go_at_call 57;first|(refine(ckind_is ‹_› ‹_›).mono ?_;rintro e w' ⟨rfl,hat⟩)|(refine(ckind_at ‹_›).mono ?_;rintro e w' ⟨rfl,hat⟩))|(go_at_call 113;first|(refine((ih _ ?hk).unary _ _ _ _ _ _ ‹_› ‹_›).mono ?_;(case hk=>omega);rintro e w' ⟨v,rfl,hat⟩)|(refine(cunary_f _ _ _ _ _ _ _ ‹_›).mono ?_;rintro e w' ⟨v,rfl,hat⟩))|(go_at_call 31;refine(ctake_at ‹_› (by first|with_reducible assumption|exact Lib.hid rfl|assumption|exact run_hid _ _ _ _ _)).mono ?_;rintro e w' ⟨v,rfl,hat⟩)|(go_at_call 71;first|(refine((ih _ ?hk).binary _ _ _ _ _ _ _ ‹_› ‹_›).mono ?_;(case hk=>omega);rintro e w' ⟨v,rfl,hat⟩)|(refine(cbinary_f _ _ _ _ _ _ _ _ ‹_›).mono ?_;rintro e w' ⟨v,rfl,hat⟩))|(go_at_call 37;refine(cclose_at _ _ _ _ _ _ _ _ ‹_› (by first|exact fun _=>rfl|assumption|exact fun hb=>by cases hb) (by first|exact fun _=>low_ok ‹_›|(intro _;omega)|(intro hb;cases hb;done)|assumption) (by first|with_reducible assumption|exact Lib.hid rfl|assumption|exact run_hid _ _ _ _ _)).mono ?_;rintro e w' ⟨v,rfl,hat⟩)|(go_at_call 114;refine(cPrec_any _ _).mono ?_;rintro e w' ⟨rfl,rfl⟩))
  go_loopw [] (fun wr=>Mq C b y (.binL p h s.R.length) n wr) (fun wr=>mpOf C b y (.binL p h s.R.length) wr)
  case atStart=>exact Mq.at ‹_› ‹_›
  case round=>
   rcases hrel.out with⟨d0,d1,d2,hu,hat⟩|⟨k,s',hk,hq,hat,hy'⟩
   ·subst hu
    have hk0:(Res.fail d0 d1 d2).kind=0:=rfl
    go_wp2_with (first
   |(go_at_call 61;first|(refine(cmark_at ‹_›).mono ?_;rintro e w' ⟨rfl,rfl⟩)|(refine(cmark_bad ‹_›).mono ?_;rintro e w' ⟨⟨v,_,rfl⟩,rfl⟩))
   |(go_at_call 57;first|(refine(ckind_is ‹_› ‹_›).mono ?_;rintro e w' ⟨rfl,hat⟩)|(refine(ckind_at ‹_›).mono ?_;rintro e w' ⟨rfl,hat⟩))
   |(go_at_call 113;first|(refine((ih _ ?hk).unary _ _ _ _ _ _ ‹_› ‹_›).mono ?_;(case hk=>omega);rintro e w' ⟨v,rfl,hat⟩)|(refine(cunary_f _ _ _ _ _ _ _ ‹_›).mono ?_;rintro e w' ⟨v,rfl,hat⟩))
   |(go_at_call 31;refine(ctake_at ‹_› (by first|with_reducible assumption|exact Lib.hid rfl|assumption|exact run_hid _ _ _ _ _)).mono ?_;rintro e w' ⟨v,rfl,hat⟩)
   |(go_at_call 71;first|(refine((ih _ ?hk).binary _ _ _ _ _ _ _ ‹_› ‹_›).mono ?_;(case hk=>omega);rintro e w' ⟨v,rfl,hat⟩)|(refine(cbinary_f _ _ _ _ _ _ _ _ ‹_›).mono ?_;rintro e w' ⟨v,rfl,hat⟩))
   |(go_at_call 37;refine(cclose_at _ _ _ _ _ _ _ _ ‹_› (by first|exact fun _=>rfl|assumption|exact fun hb=>by cases hb) (by first|exact fun _=>low_ok ‹_›|(intro _;omega)|(intro hb;cases hb;done)|assumption) (by first|with_reducible assumption|exact Lib.hid rfl|assumption|exact run_hid _ _ _ _ _)).mono ?_;rintro e w' ⟨v,rfl,hat⟩)
   |(go_at_call 114;refine(cPrec_any _ _).mono ?_;rintro e w' ⟨rfl,rfl⟩))
    all_goals(first|(go_roundw;(case rel=>exact(Mq.less (by omega) ‹_› ‹_› hq).1);(case measure=>exact(Mq.less (n:=n) (by omega) ‹_› ‹_› hq).2))|(go_end0;exact⟨_,rfl,by assumption⟩)|(go_ret;exact⟨_,rfl,by assumption⟩))
   ·rw[run] at hy'
    try dsimp only at hy'
    have hy2:=hy'
    clear hy'
    split at hy2
    ·obtain rfl:=Option.some.inj hy2
     rename _∨_=>ho
     by_cases hq0:precOf (Res.ok s').kind=0
     ·have e0:(precOf (Res.ok s').kind == 0)=true:=by simp [hq0]
      go_wp2_with (first
   |(go_at_call 61;first|(refine(cmark_at ‹_›).mono ?_;rintro e w' ⟨rfl,rfl⟩)|(refine(cmark_bad ‹_›).mono ?_;rintro e w' ⟨⟨v,_,rfl⟩,rfl⟩))
   |(go_at_call 57;first|(refine(ckind_is ‹_› ‹_›).mono ?_;rintro e w' ⟨rfl,hat⟩)|(refine(ckind_at ‹_›).mono ?_;rintro e w' ⟨rfl,hat⟩))
   |(go_at_call 113;first|(refine((ih _ ?hk).unary _ _ _ _ _ _ ‹_› ‹_›).mono ?_;(case hk=>omega);rintro e w' ⟨v,rfl,hat⟩)|(refine(cunary_f _ _ _ _ _ _ _ ‹_›).mono ?_;rintro e w' ⟨v,rfl,hat⟩))
   |(go_at_call 31;refine(ctake_at ‹_› (by first|with_reducible assumption|exact Lib.hid rfl|assumption|exact run_hid _ _ _ _ _)).mono ?_;rintro e w' ⟨v,rfl,hat⟩)
   |(go_at_call 71;first|(refine((ih _ ?hk).binary _ _ _ _ _ _ _ ‹_› ‹_›).mono ?_;(case hk=>omega);rintro e w' ⟨v,rfl,hat⟩)|(refine(cbinary_f _ _ _ _ _ _ _ _ ‹_›).mono ?_;rintro e w' ⟨v,rfl,hat⟩))
   |(go_at_call 37;refine(cclose_at _ _ _ _ _ _ _ _ ‹_› (by first|exact fun _=>rfl|assumption|exact fun hb=>by cases hb) (by first|exact fun _=>low_ok ‹_›|(intro _;omega)|(intro hb;cases hb;done)|assumption) (by first|with_reducible assumption|exact Lib.hid rfl|assumption|exact run_hid _ _ _ _ _)).mono ?_;rintro e w' ⟨v,rfl,hat⟩)
   |(go_at_call 114;refine(cPrec_any _ _).mono ?_;rintro e w' ⟨rfl,rfl⟩))
      all_goals(first
    |(go_roundw;(case rel=>exact(Mq.less (by omega) ‹_› ‹_› hq).1);(case measure=>exact(Mq.less (n:=n) (by omega) ‹_› ‹_› hq).2))
    |(go_end0;exact⟨_,rfl,by assumption⟩)
    |(go_ret;exact⟨_,rfl,by assumption⟩))
     ·have hq1:precOf (Res.ok s').kind<p:=by rcases ho with ho|ho;exact absurd ho hq0;exact ho
      have e0:(precOf (Res.ok s').kind == 0)=false:=by simp [hq0]
      have e1:decide (precOf (Res.ok s').kind<p)=true:=by simp [hq1]
      go_wp2_with (first
   |(go_at_call 61;first|(refine(cmark_at ‹_›).mono ?_;rintro e w' ⟨rfl,rfl⟩)|(refine(cmark_bad ‹_›).mono ?_;rintro e w' ⟨⟨v,_,rfl⟩,rfl⟩))
   |(go_at_call 57;first|(refine(ckind_is ‹_› ‹_›).mono ?_;rintro e w' ⟨rfl,hat⟩)|(refine(ckind_at ‹_›).mono ?_;rintro e w' ⟨rfl,hat⟩))
   |(go_at_call 113;first|(refine((ih _ ?hk).unary _ _ _ _ _ _ ‹_› ‹_›).mono ?_;(case hk=>omega);rintro e w' ⟨v,rfl,hat⟩)|(refine(cunary_f _ _ _ _ _ _ _ ‹_›).mono ?_;rintro e w' ⟨v,rfl,hat⟩))
   |(go_at_call 31;refine(ctake_at ‹_› (by first|with_reducible assumption|exact Lib.hid rfl|assumption|exact run_hid _ _ _ _ _)).mono ?_;rintro e w' ⟨v,rfl,hat⟩)
   |(go_at_call 71;first|(refine((ih _ ?hk).binary _ _ _ _ _ _ _ ‹_› ‹_›).mono ?_;(case hk=>omega);rintro e w' ⟨v,rfl,hat⟩)|(refine(cbinary_f _ _ _ _ _ _ _ _ ‹_›).mono ?_;rintro e w' ⟨v,rfl,hat⟩))
   |(go_at_call 37;refine(cclose_at _ _ _ _ _ _ _ _ ‹_› (by first|exact fun _=>rfl|assumption|exact fun hb=>by cases hb) (by first|exact fun _=>low_ok ‹_›|(intro _;omega)|(intro hb;cases hb;done)|assumption) (by first|with_reducible assumption|exact Lib.hid rfl|assumption|exact run_hid _ _ _ _ _)).mono ?_;rintro e w' ⟨v,rfl,hat⟩)
   |(go_at_call 114;refine(cPrec_any _ _).mono ?_;rintro e w' ⟨rfl,rfl⟩))
      all_goals(first|(go_roundw;(case rel=>exact(Mq.less (by omega) ‹_› ‹_› hq).1);(case measure=>exact(Mq.less (n:=n) (by omega) ‹_› ‹_› hq).2))|(go_end0;exact⟨_,rfl,by assumption⟩)|(go_ret;exact⟨_,rfl,by assumption⟩))
    ·rename ¬ (_∨_)=>ho
     rw[not_or] at ho
     obtain⟨hq0,hq1⟩:=ho
     have e0:(precOf (Res.ok s').kind == 0)=false:=by simp [hq0]
     have e1:decide (precOf (Res.ok s').kind<p)=false:=by simp [hq1]
     have hp0:0≤precOf (Res.ok s').kind∧precOf (Res.ok s').kind≤5:=precOf_le _
     rw[bind_iff] at hy2
     obtain⟨y1,hy1,hy2⟩:=hy2
     rw[bind_iff] at hy2
     obtain⟨y2,hyb,hy2⟩:=hy2
     rw[bind_iff] at hy2
     obtain⟨y3,hyc,hy2⟩:=hy2
     replace hy2:=Lib.hid hy2
     go_wp2_with (first
   |(go_at_call 61;first|(refine(cmark_at ‹_›).mono ?_;rintro e w' ⟨rfl,rfl⟩)|(refine(cmark_bad ‹_›).mono ?_;rintro e w' ⟨⟨v,_,rfl⟩,rfl⟩))
   |(go_at_call 57;first|(refine(ckind_is ‹_› ‹_›).mono ?_;rintro e w' ⟨rfl,hat⟩)|(refine(ckind_at ‹_›).mono ?_;rintro e w' ⟨rfl,hat⟩))
   |(go_at_call 113;first|(refine((ih _ ?hk).unary _ _ _ _ _ _ ‹_› ‹_›).mono ?_;(case hk=>omega);rintro e w' ⟨v,rfl,hat⟩)|(refine(cunary_f _ _ _ _ _ _ _ ‹_›).mono ?_;rintro e w' ⟨v,rfl,hat⟩))
   |(go_at_call 31;refine(ctake_at ‹_› (by first|with_reducible assumption|exact Lib.hid rfl|assumption|exact run_hid _ _ _ _ _)).mono ?_;rintro e w' ⟨v,rfl,hat⟩)
   |(go_at_call 71;first|(refine((ih _ ?hk).binary _ _ _ _ _ _ _ ‹_› ‹_›).mono ?_;(case hk=>omega);rintro e w' ⟨v,rfl,hat⟩)|(refine(cbinary_f _ _ _ _ _ _ _ _ ‹_›).mono ?_;rintro e w' ⟨v,rfl,hat⟩))
   |(go_at_call 37;refine(cclose_at _ _ _ _ _ _ _ _ ‹_› (by first|exact fun _=>rfl|assumption|exact fun hb=>by cases hb) (by first|exact fun _=>low_ok ‹_›|(intro _;omega)|(intro hb;cases hb;done)|assumption) (by first|with_reducible assumption|exact Lib.hid rfl|assumption|exact run_hid _ _ _ _ _)).mono ?_;rintro e w' ⟨v,rfl,hat⟩)
   |(go_at_call 114;refine(cPrec_any _ _).mono ?_;rintro e w' ⟨rfl,rfl⟩))
     all_goals(first|(go_roundw;(case rel=>exact(Mq.less (by omega) ‹_› ‹_› hq).1);(case measure=>exact(Mq.less (n:=n) (by omega) ‹_› ‹_› hq).2))|(go_end0;exact⟨_,rfl,by assumption⟩)|(go_ret;exact⟨_,rfl,by assumption⟩))
end Go.Proofs.YtcekbbkidipbnaaGreat.rd
