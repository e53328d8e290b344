/-
  Texts put together: RefEscE, RefEscF, RefEsc, QuoteFacts, QuoteBase, RefUnqA, RefUnqB, RefUnq, RefCharA.
-/
import Derived.Test.YtcekbbkidipbnaaGreatL33
import Derived.Test.YtcekbbkidipbnaaGreatL25
import Derived.BigQuiet
import Derived.Deep.QuietTactic
import Derived.Deep.RegionHeld3
set_option maxRecDepth 100000
set_option maxHeartbeats 8000000
namespace Go.Proofs.YtcekbbkidipbnaaGreat.tok
open Go.RowKit
theorem refEsc_U_none (s:ByteArray) (i:Nat) (c q:UInt8) (w:World) (hs:s.size≤140737488355328) (hin:i+1<s.size) (hc:s[i+1]=c) (hcq:c≠q) (n120:c≠120) (n117:c≠117) (e85:c=85) (hev:escV s.data.toList i q=runeE s.data.toList i 8) (ho:numAt s.data.toList (i+2) 8 16=none) (hns:∀ k,k<8→saySigns.getD k 0≠c) :
  Calls Tryz.prog 185 #[.string s,.int .i64 i,.int .u8 (q.toNat:Int)] w (RefEsc (escV s.data.toList i q) w):=by
 have HE:Hid (escV s.data.toList i q=(0,false,0)):=Lib.hid (by rw[hev,runeE,ho])
 have HO:=Lib.hid ho
 clear ho hev
 have hd:decide ((s.size:Int)≤(i:Int)+1)=false:=decide_eq_false (by omega)
 have hix:∀ u:World,(Instr.index 9 (.string s) (.int .i64 ((i:Int)+1))).run Tryz.prog u=.ok (.int .u8 (c.toNat:Int)) u:=fun u=>by
  rw[← hc];exact index_at s _ (i+1) (by omega) hin u
 have hc0:(0:Int)≤(c.toNat:Int):=by omega
 have hc1:(c.toNat:Int)≤255:=by have:=UInt8.toNat_lt c;omega
 have zq:((c.toNat:Int) == (q.toNat:Int))=false:=byte_ne hcq
 have z120:((c.toNat:Int) == 120)=false:=byte_ne (d:=120) n120
 have z117:((c.toNat:Int) == 117)=false:=byte_ne (d:=117) n117
 have z85:((c.toNat:Int) == 85)=true:=byte_eq (d:=85) e85
 have HNS:=Lib.hid hns
 clear hc hcq hns
 go_enter Tryz.func185,Tryz.ntmps185
 go_wp2_with fail
 go_loop [12] (fun x=>∃ k:Nat,k≤8∧x=.int .i64 k∧∀ j,j<k→saySigns.getD j 0≠c) (fun x=>8 - (intOf x).toNat)
 case atStart=>exact⟨0,by omega,rfl,fun j hj=>by omega⟩
 case round=>
  obtain⟨k,hk,rfl,hbef⟩:=hrel
  have HBF:=Lib.hid hbef
  clear hbef
  by_cases hlt:k<8
  ·obtain⟨y,hy⟩:∃ y,saySigns.getD k 0=y:=⟨_,rfl⟩
   have hik:∀ u:World,(Instr.index 9 (.string { data:=#[97,98,102,110,114,116,118,92] }) (.int .i64 (k:Int))).run Tryz.prog u=.ok (.int .u8 (y.toNat:Int)) u:=fun u=>by
    rw[← hy]
    have:=index_at (B saySigns) (k:Int) k rfl (by rw[bsize];exact hlt) u
    have e:(B saySigns)[k]'(by rw[bsize];exact hlt)=saySigns.getD k 0:=by
     have e1:=at_data (s:=B saySigns) (i:=k) (by rw[bsize];exact hlt)
     rw[← e1]
     simp [bdata,List.getD,show k<saySigns.length from hlt]
    rw[e] at this
    exact this
   have hyc:c≠y:=fun g=>HNS.out k hlt (by rw[hy];exact g.symm)
   have zy:((c.toNat:Int) == (y.toNat:Int))=false:=byte_ne hyc
   have HN:Hid (∀ j,j<k+1→saySigns.getD j 0≠c):=Lib.hid (fun j hj=>HNS.out j (by omega))
   clear hyc
   go_wp2_with fail
   go_round
   case rel=>exact⟨k+1,by omega,by go_num,HN.out⟩
   case measure=>simp [intOf];omega
  ·obtain rfl:k=8:=by omega
   go_wp2_with (go_at_call 191;refine(refNumber_16z s _ _ (i+2) 8 _ (by omega) rfl hs (by omega) (by omega)).mono ?_;rintro e w' ⟨rfl,rfl⟩;rw[HO.out];simp only[numM])
   go_ret3
   exact RefEsc.mk HE.out escT_none rfl ((Below.refl _ _).alloc (Nat.le_refl _) _)
theorem refEsc_U_big (s:ByteArray) (i:Nat) (c q:UInt8) (w:World) (hs:s.size≤140737488355328) (hin:i+1<s.size) (hc:s[i+1]=c) (hcq:c≠q) (n120:c≠120) (n117:c≠117) (e85:c=85) (hev:escV s.data.toList i q=runeE s.data.toList i 8) (n:Int) (ho:numAt s.data.toList (i+2) 8 16=some n) (hn:1114111<n) (hns:∀ k,k<8→saySigns.getD k 0≠c) :
  Calls Tryz.prog 185 #[.string s,.int .i64 i,.int .u8 (q.toNat:Int)] w (RefEsc (escV s.data.toList i q) w):=by
 have HE:Hid (escV s.data.toList i q=(0,false,0)):=Lib.hid (by rw[hev,runeE,ho];exact if_pos hn)
 obtain⟨_,hn0,hn1⟩:=numAt_bound (by omega) (by omega) ho
 have hp:=pow_le8 8 (by omega)
 have hn2:n≤4294967296:=by omega
 clear hp hn1
 have d0:decide (n<0)=false:=decide_eq_false (by omega)
 have d2:decide (1114111<n)=true:=decide_eq_true (by omega)
 have HO:=Lib.hid ho
 clear ho hev
 have hd:decide ((s.size:Int)≤(i:Int)+1)=false:=decide_eq_false (by omega)
 have hix:∀ u:World,(Instr.index 9 (.string s) (.int .i64 ((i:Int)+1))).run Tryz.prog u=.ok (.int .u8 (c.toNat:Int)) u:=fun u=>by
  rw[← hc];exact index_at s _ (i+1) (by omega) hin u
 have hc0:(0:Int)≤(c.toNat:Int):=by omega
 have hc1:(c.toNat:Int)≤255:=by have:=UInt8.toNat_lt c;omega
 have zq:((c.toNat:Int) == (q.toNat:Int))=false:=byte_ne hcq
 have z120:((c.toNat:Int) == 120)=false:=byte_ne (d:=120) n120
 have z117:((c.toNat:Int) == 117)=false:=byte_ne (d:=117) n117
 have z85:((c.toNat:Int) == 85)=true:=byte_eq (d:=85) e85
 have HNS:=Lib.hid hns
 clear hc hcq hns
 go_enter Tryz.func185,Tryz.ntmps185
 go_wp2_with fail
 go_loop [12] (fun x=>∃ k:Nat,k≤8∧x=.int .i64 k∧∀ j,j<k→saySigns.getD j 0≠c) (fun x=>8 - (intOf x).toNat)
 case atStart=>exact⟨0,by omega,rfl,fun j hj=>by omega⟩
 case round=>
  obtain⟨k,hk,rfl,hbef⟩:=hrel
  have HBF:=Lib.hid hbef
  clear hbef
  by_cases hlt:k<8
  ·obtain⟨y,hy⟩:∃ y,saySigns.getD k 0=y:=⟨_,rfl⟩
   have hik:∀ u:World,(Instr.index 9 (.string { data:=#[97,98,102,110,114,116,118,92] }) (.int .i64 (k:Int))).run Tryz.prog u=.ok (.int .u8 (y.toNat:Int)) u:=fun u=>by
    rw[← hy]
    have:=index_at (B saySigns) (k:Int) k rfl (by rw[bsize];exact hlt) u
    have e:(B saySigns)[k]'(by rw[bsize];exact hlt)=saySigns.getD k 0:=by
     have e1:=at_data (s:=B saySigns) (i:=k) (by rw[bsize];exact hlt)
     rw[← e1]
     simp [bdata,List.getD,show k<saySigns.length from hlt]
    rw[e] at this
    exact this
   have hyc:c≠y:=fun g=>HNS.out k hlt (by rw[hy];exact g.symm)
   have zy:((c.toNat:Int) == (y.toNat:Int))=false:=byte_ne hyc
   have HN:Hid (∀ j,j<k+1→saySigns.getD j 0≠c):=Lib.hid (fun j hj=>HNS.out j (by omega))
   clear hyc
   go_wp2_with fail
   go_round
   case rel=>exact⟨k+1,by omega,by go_num,HN.out⟩
   case measure=>simp [intOf];omega
  ·obtain rfl:k=8:=by omega
   go_wp2_with (go_at_call 191;refine(refNumber_16z s _ _ (i+2) 8 _ (by omega) rfl hs (by omega) (by omega)).mono ?_;rintro e w' ⟨rfl,rfl⟩;rw[HO.out];simp only[numM])
   go_ret3
   exact RefEsc.mk HE.out escT_none rfl ((Below.refl _ _).alloc (Nat.le_refl _) _)
theorem refEsc_U_bad (s:ByteArray) (i:Nat) (c q:UInt8) (w:World) (hs:s.size≤140737488355328) (hin:i+1<s.size) (hc:s[i+1]=c) (hcq:c≠q) (n120:c≠120) (n117:c≠117) (e85:c=85) (hev:escV s.data.toList i q=runeE s.data.toList i 8) (n:Int) (ho:numAt s.data.toList (i+2) 8 16=some n) (hn:n≤1114111) (hbad:55296≤n∧n≤57343) (hns:∀ k,k<8→saySigns.getD k 0≠c) :
  Calls Tryz.prog 185 #[.string s,.int .i64 i,.int .u8 (q.toNat:Int)] w (RefEsc (escV s.data.toList i q) w):=by
 have hv:Lib.validRune n=false:=by unfold Lib.validRune;exact decide_eq_false (by omega)
 have HE:Hid (escV s.data.toList i q=(0,false,0)):=Lib.hid (by rw[hev,runeE,ho];show(if 1114111<n then _ else if Lib.validRune n=true then _ else _)=_;rw[if_neg (by omega),if_neg (by rw[hv];decide)])
 clear hv
 obtain⟨_,hn0,hn1⟩:=numAt_bound (by omega) (by omega) ho
 have hp:=pow_le8 8 (by omega)
 have hn2:n≤4294967296:=by omega
 clear hp hn1
 have d0:decide (n<0)=false:=decide_eq_false (by omega)
 have d2:decide (1114111<n)=false:=decide_eq_false (by omega)
 have d3:decide (55296≤n)=true:=decide_eq_true (by omega)
 have d4:decide (n≤57343)=true:=decide_eq_true (by omega)
 have HO:=Lib.hid ho
 clear ho hev
 have hd:decide ((s.size:Int)≤(i:Int)+1)=false:=decide_eq_false (by omega)
 have hix:∀ u:World,(Instr.index 9 (.string s) (.int .i64 ((i:Int)+1))).run Tryz.prog u=.ok (.int .u8 (c.toNat:Int)) u:=fun u=>by
  rw[← hc];exact index_at s _ (i+1) (by omega) hin u
 have hc0:(0:Int)≤(c.toNat:Int):=by omega
 have hc1:(c.toNat:Int)≤255:=by have:=UInt8.toNat_lt c;omega
 have zq:((c.toNat:Int) == (q.toNat:Int))=false:=byte_ne hcq
 have z120:((c.toNat:Int) == 120)=false:=byte_ne (d:=120) n120
 have z117:((c.toNat:Int) == 117)=false:=byte_ne (d:=117) n117
 have z85:((c.toNat:Int) == 85)=true:=byte_eq (d:=85) e85
 have HNS:=Lib.hid hns
 clear hc hcq hns
 go_enter Tryz.func185,Tryz.ntmps185
 go_wp2_with fail
 go_loop [12] (fun x=>∃ k:Nat,k≤8∧x=.int .i64 k∧∀ j,j<k→saySigns.getD j 0≠c) (fun x=>8 - (intOf x).toNat)
 case atStart=>exact⟨0,by omega,rfl,fun j hj=>by omega⟩
 case round=>
  obtain⟨k,hk,rfl,hbef⟩:=hrel
  have HBF:=Lib.hid hbef
  clear hbef
  by_cases hlt:k<8
  ·obtain⟨y,hy⟩:∃ y,saySigns.getD k 0=y:=⟨_,rfl⟩
   have hik:∀ u:World,(Instr.index 9 (.string { data:=#[97,98,102,110,114,116,118,92] }) (.int .i64 (k:Int))).run Tryz.prog u=.ok (.int .u8 (y.toNat:Int)) u:=fun u=>by
    rw[← hy]
    have:=index_at (B saySigns) (k:Int) k rfl (by rw[bsize];exact hlt) u
    have e:(B saySigns)[k]'(by rw[bsize];exact hlt)=saySigns.getD k 0:=by
     have e1:=at_data (s:=B saySigns) (i:=k) (by rw[bsize];exact hlt)
     rw[← e1]
     simp [bdata,List.getD,show k<saySigns.length from hlt]
    rw[e] at this
    exact this
   have hyc:c≠y:=fun g=>HNS.out k hlt (by rw[hy];exact g.symm)
   have zy:((c.toNat:Int) == (y.toNat:Int))=false:=byte_ne hyc
   have HN:Hid (∀ j,j<k+1→saySigns.getD j 0≠c):=Lib.hid (fun j hj=>HNS.out j (by omega))
   clear hyc
   go_wp2_with fail
   go_round
   case rel=>exact⟨k+1,by omega,by go_num,HN.out⟩
   case measure=>simp [intOf];omega
  ·obtain rfl:k=8:=by omega
   go_wp2_with (go_at_call 191;refine(refNumber_16z s _ _ (i+2) 8 _ (by omega) rfl hs (by omega) (by omega)).mono ?_;rintro e w' ⟨rfl,rfl⟩;rw[HO.out];simp only[numM])
   go_ret3
   exact RefEsc.mk HE.out escT_none rfl ((Below.refl _ _).alloc (Nat.le_refl _) _)
theorem refEsc_U_lo (s:ByteArray) (i:Nat) (c q:UInt8) (w:World) (hs:s.size≤140737488355328) (hin:i+1<s.size) (hc:s[i+1]=c) (hcq:c≠q) (n120:c≠120) (n117:c≠117) (e85:c=85) (hev:escV s.data.toList i q=runeE s.data.toList i 8) (n:Int) (ho:numAt s.data.toList (i+2) 8 16=some n) (hgood:n<55296) (hns:∀ k,k<8→saySigns.getD k 0≠c) :
  Calls Tryz.prog 185 #[.string s,.int .i64 i,.int .u8 (q.toNat:Int)] w (RefEsc (escV s.data.toList i q) w):=by
 have hb:=numAt_bound (by omega) (by omega) ho
 have hv:Lib.validRune n=true:=by unfold Lib.validRune;exact decide_eq_true (by omega)
 have HE:Hid (escV s.data.toList i q=(n,true,10)):=Lib.hid (by rw[hev,runeE,ho];show(if 1114111<n then _ else if Lib.validRune n=true then _ else _)=_;rw[if_neg (by omega),if_pos hv])
 have HV:=Lib.hid hv
 clear hv hb
 obtain⟨_,hn0,hn1⟩:=numAt_bound (by omega) (by omega) ho
 have hp:=pow_le8 8 (by omega)
 have hn2:n≤4294967296:=by omega
 clear hp hn1
 have d0:decide (n<0)=false:=decide_eq_false (by omega)
 have d2:decide (1114111<n)=false:=decide_eq_false (by omega)
 have d3:decide (55296≤n)=false:=decide_eq_false (by omega)
 have HO:=Lib.hid ho
 clear ho hev
 have hd:decide ((s.size:Int)≤(i:Int)+1)=false:=decide_eq_false (by omega)
 have hix:∀ u:World,(Instr.index 9 (.string s) (.int .i64 ((i:Int)+1))).run Tryz.prog u=.ok (.int .u8 (c.toNat:Int)) u:=fun u=>by
  rw[← hc];exact index_at s _ (i+1) (by omega) hin u
 have hc0:(0:Int)≤(c.toNat:Int):=by omega
 have hc1:(c.toNat:Int)≤255:=by have:=UInt8.toNat_lt c;omega
 have zq:((c.toNat:Int) == (q.toNat:Int))=false:=byte_ne hcq
 have z120:((c.toNat:Int) == 120)=false:=byte_ne (d:=120) n120
 have z117:((c.toNat:Int) == 117)=false:=byte_ne (d:=117) n117
 have z85:((c.toNat:Int) == 85)=true:=byte_eq (d:=85) e85
 have HNS:=Lib.hid hns
 clear hc hcq hns
 go_enter Tryz.func185,Tryz.ntmps185
 go_wp2_with fail
 go_loop [12] (fun x=>∃ k:Nat,k≤8∧x=.int .i64 k∧∀ j,j<k→saySigns.getD j 0≠c) (fun x=>8 - (intOf x).toNat)
 case atStart=>exact⟨0,by omega,rfl,fun j hj=>by omega⟩
 case round=>
  obtain⟨k,hk,rfl,hbef⟩:=hrel
  have HBF:=Lib.hid hbef
  clear hbef
  by_cases hlt:k<8
  ·obtain⟨y,hy⟩:∃ y,saySigns.getD k 0=y:=⟨_,rfl⟩
   have hik:∀ u:World,(Instr.index 9 (.string { data:=#[97,98,102,110,114,116,118,92] }) (.int .i64 (k:Int))).run Tryz.prog u=.ok (.int .u8 (y.toNat:Int)) u:=fun u=>by
    rw[← hy]
    have:=index_at (B saySigns) (k:Int) k rfl (by rw[bsize];exact hlt) u
    have e:(B saySigns)[k]'(by rw[bsize];exact hlt)=saySigns.getD k 0:=by
     have e1:=at_data (s:=B saySigns) (i:=k) (by rw[bsize];exact hlt)
     rw[← e1]
     simp [bdata,List.getD,show k<saySigns.length from hlt]
    rw[e] at this
    exact this
   have hyc:c≠y:=fun g=>HNS.out k hlt (by rw[hy];exact g.symm)
   have zy:((c.toNat:Int) == (y.toNat:Int))=false:=byte_ne hyc
   have HN:Hid (∀ j,j<k+1→saySigns.getD j 0≠c):=Lib.hid (fun j hj=>HNS.out j (by omega))
   clear hyc
   go_wp2_with fail
   go_round
   case rel=>exact⟨k+1,by omega,by go_num,HN.out⟩
   case measure=>simp [intOf];omega
  ·obtain rfl:k=8:=by omega
   go_wp2_with (first|(go_at_call 191;refine(refNumber_16z s _ _ (i+2) 8 _ (by omega) rfl hs (by omega) (by omega)).mono ?_;rintro e w' ⟨rfl,rfl⟩;rw[HO.out];simp only[numM])|(go_at_call 192;refine(utf_any n _ HV.out).mono ?_;rintro e w' ⟨rfl,hb⟩))
   go_ret3
   exact RefEsc.mk HE.out (escT_rune _ _ (by decide)) rfl (((Below.refl _ _).alloc (Nat.le_refl _) _).trans (hb.mono (by rw[World.size_alloc];exact Nat.le_succ _)))
theorem refEsc_U_hi (s:ByteArray) (i:Nat) (c q:UInt8) (w:World) (hs:s.size≤140737488355328) (hin:i+1<s.size) (hc:s[i+1]=c) (hcq:c≠q) (n120:c≠120) (n117:c≠117) (e85:c=85) (hev:escV s.data.toList i q=runeE s.data.toList i 8) (n:Int) (ho:numAt s.data.toList (i+2) 8 16=some n) (hn:n≤1114111) (hgood:57343<n) (hns:∀ k,k<8→saySigns.getD k 0≠c) :
  Calls Tryz.prog 185 #[.string s,.int .i64 i,.int .u8 (q.toNat:Int)] w (RefEsc (escV s.data.toList i q) w):=by
 have hb:=numAt_bound (by omega) (by omega) ho
 have hv:Lib.validRune n=true:=by unfold Lib.validRune;exact decide_eq_true (by omega)
 have HE:Hid (escV s.data.toList i q=(n,true,10)):=Lib.hid (by rw[hev,runeE,ho];show(if 1114111<n then _ else if Lib.validRune n=true then _ else _)=_;rw[if_neg (by omega),if_pos hv])
 have HV:=Lib.hid hv
 clear hv hb
 obtain⟨_,hn0,hn1⟩:=numAt_bound (by omega) (by omega) ho
 have hp:=pow_le8 8 (by omega)
 have hn2:n≤4294967296:=by omega
 clear hp hn1
 have d0:decide (n<0)=false:=decide_eq_false (by omega)
 have d2:decide (1114111<n)=false:=decide_eq_false (by omega)
 have d3:decide (55296≤n)=true:=decide_eq_true (by omega)
 have d4:decide (n≤57343)=false:=decide_eq_false (by omega)
 have HO:=Lib.hid ho
 clear ho hev
 have hd:decide ((s.size:Int)≤(i:Int)+1)=false:=decide_eq_false (by omega)
 have hix:∀ u:World,(Instr.index 9 (.string s) (.int .i64 ((i:Int)+1))).run Tryz.prog u=.ok (.int .u8 (c.toNat:Int)) u:=fun u=>by
  rw[← hc];exact index_at s _ (i+1) (by omega) hin u
 have hc0:(0:Int)≤(c.toNat:Int):=by omega
 have hc1:(c.toNat:Int)≤255:=by have:=UInt8.toNat_lt c;omega
 have zq:((c.toNat:Int) == (q.toNat:Int))=false:=byte_ne hcq
 have z120:((c.toNat:Int) == 120)=false:=byte_ne (d:=120) n120
 have z117:((c.toNat:Int) == 117)=false:=byte_ne (d:=117) n117
 have z85:((c.toNat:Int) == 85)=true:=byte_eq (d:=85) e85
 have HNS:=Lib.hid hns
 clear hc hcq hns
 go_enter Tryz.func185,Tryz.ntmps185
 go_wp2_with fail
 go_loop [12] (fun x=>∃ k:Nat,k≤8∧x=.int .i64 k∧∀ j,j<k→saySigns.getD j 0≠c) (fun x=>8 - (intOf x).toNat)
 case atStart=>exact⟨0,by omega,rfl,fun j hj=>by omega⟩
 case round=>
  obtain⟨k,hk,rfl,hbef⟩:=hrel
  have HBF:=Lib.hid hbef
  clear hbef
  by_cases hlt:k<8
  ·obtain⟨y,hy⟩:∃ y,saySigns.getD k 0=y:=⟨_,rfl⟩
   have hik:∀ u:World,(Instr.index 9 (.string { data:=#[97,98,102,110,114,116,118,92] }) (.int .i64 (k:Int))).run Tryz.prog u=.ok (.int .u8 (y.toNat:Int)) u:=fun u=>by
    rw[← hy]
    have:=index_at (B saySigns) (k:Int) k rfl (by rw[bsize];exact hlt) u
    have e:(B saySigns)[k]'(by rw[bsize];exact hlt)=saySigns.getD k 0:=by
     have e1:=at_data (s:=B saySigns) (i:=k) (by rw[bsize];exact hlt)
     rw[← e1]
     simp [bdata,List.getD,show k<saySigns.length from hlt]
    rw[e] at this
    exact this
   have hyc:c≠y:=fun g=>HNS.out k hlt (by rw[hy];exact g.symm)
   have zy:((c.toNat:Int) == (y.toNat:Int))=false:=byte_ne hyc
   have HN:Hid (∀ j,j<k+1→saySigns.getD j 0≠c):=Lib.hid (fun j hj=>HNS.out j (by omega))
   clear hyc
   go_wp2_with fail
   go_round
   case rel=>exact⟨k+1,by omega,by go_num,HN.out⟩
   case measure=>simp [intOf];omega
  ·obtain rfl:k=8:=by omega
   go_wp2_with (first|(go_at_call 191;refine(refNumber_16z s _ _ (i+2) 8 _ (by omega) rfl hs (by omega) (by omega)).mono ?_;rintro e w' ⟨rfl,rfl⟩;rw[HO.out];simp only[numM])|(go_at_call 192;refine(utf_any n _ HV.out).mono ?_;rintro e w' ⟨rfl,hb⟩))
   go_ret3
   exact RefEsc.mk HE.out (escT_rune _ _ (by decide)) rfl (((Below.refl _ _).alloc (Nat.le_refl _) _).trans (hb.mono (by rw[World.size_alloc];exact Nat.le_succ _)))
open Go.RowKit
theorem refEsc_d_big (s:ByteArray) (i:Nat) (c q:UInt8) (w:World) (hs:s.size≤140737488355328) (hin:i+1<s.size) (hc:s[i+1]=c) (hcq:c≠q) (n120:c≠120) (n117:c≠117) (n85:c≠85) (hev:escV s.data.toList i q=byteE s.data.toList i 1 3 8) (n:Int) (ho:numAt s.data.toList (i+1) 3 8=some n) (hn:255<n) (hns:∀ k,k<8→saySigns.getD k 0≠c) :
  Calls Tryz.prog 185 #[.string s,.int .i64 i,.int .u8 (q.toNat:Int)] w (RefEsc (escV s.data.toList i q) w):=by
 have HE:Hid (escV s.data.toList i q=(0,false,0)):=Lib.hid (by rw[hev,byteE,ho];exact if_pos hn)
 obtain⟨_,hn0,hn1⟩:=numAt_bound (by omega) (by omega) ho
 have hp:=pow_le8 3 (by omega)
 have hn2:n≤4294967296:=by omega
 clear hp hn1
 have d0:decide (n<0)=false:=decide_eq_false (by omega)
 have d1:decide (255<n)=true:=decide_eq_true (by omega)
 have HO:=Lib.hid ho
 clear ho hev
 have hd:decide ((s.size:Int)≤(i:Int)+1)=false:=decide_eq_false (by omega)
 have hix:∀ u:World,(Instr.index 9 (.string s) (.int .i64 ((i:Int)+1))).run Tryz.prog u=.ok (.int .u8 (c.toNat:Int)) u:=fun u=>by
  rw[← hc];exact index_at s _ (i+1) (by omega) hin u
 have hc0:(0:Int)≤(c.toNat:Int):=by omega
 have hc1:(c.toNat:Int)≤255:=by have:=UInt8.toNat_lt c;omega
 have zq:((c.toNat:Int) == (q.toNat:Int))=false:=byte_ne hcq
 have z120:((c.toNat:Int) == 120)=false:=byte_ne (d:=120) n120
 have z117:((c.toNat:Int) == 117)=false:=byte_ne (d:=117) n117
 have z85:((c.toNat:Int) == 85)=false:=byte_ne (d:=85) n85
 have HNS:=Lib.hid hns
 clear hc hcq hns
 go_enter Tryz.func185,Tryz.ntmps185
 go_wp2_with fail
 go_loop [12] (fun x=>∃ k:Nat,k≤8∧x=.int .i64 k∧∀ j,j<k→saySigns.getD j 0≠c) (fun x=>8 - (intOf x).toNat)
 case atStart=>exact⟨0,by omega,rfl,fun j hj=>by omega⟩
 case round=>
  obtain⟨k,hk,rfl,hbef⟩:=hrel
  have HBF:=Lib.hid hbef
  clear hbef
  by_cases hlt:k<8
  ·obtain⟨y,hy⟩:∃ y,saySigns.getD k 0=y:=⟨_,rfl⟩
   have hik:∀ u:World,(Instr.index 9 (.string { data:=#[97,98,102,110,114,116,118,92] }) (.int .i64 (k:Int))).run Tryz.prog u=.ok (.int .u8 (y.toNat:Int)) u:=fun u=>by
    rw[← hy]
    have:=index_at (B saySigns) (k:Int) k rfl (by rw[bsize];exact hlt) u
    have e:(B saySigns)[k]'(by rw[bsize];exact hlt)=saySigns.getD k 0:=by
     have e1:=at_data (s:=B saySigns) (i:=k) (by rw[bsize];exact hlt)
     rw[← e1]
     simp [bdata,List.getD,show k<saySigns.length from hlt]
    rw[e] at this
    exact this
   have hyc:c≠y:=fun g=>HNS.out k hlt (by rw[hy];exact g.symm)
   have zy:((c.toNat:Int) == (y.toNat:Int))=false:=byte_ne hyc
   have HN:Hid (∀ j,j<k+1→saySigns.getD j 0≠c):=Lib.hid (fun j hj=>HNS.out j (by omega))
   clear hyc
   go_wp2_with fail
   go_round
   case rel=>exact⟨k+1,by omega,by go_num,HN.out⟩
   case measure=>simp [intOf];omega
  ·obtain rfl:k=8:=by omega
   go_wp2_with (go_at_call 191;refine(refNumber_8z s _ _ (i+1) 3 _ (by omega) rfl hs (by omega) (by omega)).mono ?_;rintro e w' ⟨rfl,rfl⟩;rw[HO.out];simp only[numM])
   go_ret3
   exact RefEsc.mk HE.out escT_none rfl ((Below.refl _ _).alloc (Nat.le_refl _) _)
theorem refEsc_d_good (s:ByteArray) (i:Nat) (c q:UInt8) (w:World) (hs:s.size≤140737488355328) (hin:i+1<s.size) (hc:s[i+1]=c) (hcq:c≠q) (n120:c≠120) (n117:c≠117) (n85:c≠85) (hev:escV s.data.toList i q=byteE s.data.toList i 1 3 8) (n:Int) (ho:numAt s.data.toList (i+1) 3 8=some n) (hn:n≤255) (hns:∀ k,k<8→saySigns.getD k 0≠c) :
  Calls Tryz.prog 185 #[.string s,.int .i64 i,.int .u8 (q.toNat:Int)] w (RefEsc (escV s.data.toList i q) w):=by
 have HE:Hid (escV s.data.toList i q=(n,false,4)):=Lib.hid (by rw[hev,byteE,ho];exact if_neg (by omega))
 obtain⟨_,hn0,hn1⟩:=numAt_bound (by omega) (by omega) ho
 have hp:=pow_le8 3 (by omega)
 have hn2:n≤4294967296:=by omega
 clear hp hn1
 have d0:decide (n<0)=false:=decide_eq_false (by omega)
 have d1:decide (255<n)=false:=decide_eq_false (by omega)
 have d2:decide (1114111<n)=false:=decide_eq_false (by omega)
 have wq:n % 256=n:=by omega
 have cv:=conv_byte n hn0 hn
 have cvd:=conv_byte_drew n hn0 hn
 have cv2:=conv_byte n hn0 hn (w.alloc (.cells #[.int .i64 7,.int .i64 8,.int .i64 12,.int .i64 10,.int .i64 13,.int .i64 9,.int .i64 11,.int .i64 92] 3))
 have cvd2:=conv_byte_drew n hn0 hn (w.alloc (.cells #[.int .i64 7,.int .i64 8,.int .i64 12,.int .i64 10,.int .i64 13,.int .i64 9,.int .i64 11,.int .i64 92] 3))
 rw[World.size_alloc] at cvd2 cv2
 have HO:=Lib.hid ho
 clear ho hev
 have hd:decide ((s.size:Int)≤(i:Int)+1)=false:=decide_eq_false (by omega)
 have hix:∀ u:World,(Instr.index 9 (.string s) (.int .i64 ((i:Int)+1))).run Tryz.prog u=.ok (.int .u8 (c.toNat:Int)) u:=fun u=>by
  rw[← hc];exact index_at s _ (i+1) (by omega) hin u
 have hc0:(0:Int)≤(c.toNat:Int):=by omega
 have hc1:(c.toNat:Int)≤255:=by have:=UInt8.toNat_lt c;omega
 have zq:((c.toNat:Int) == (q.toNat:Int))=false:=byte_ne hcq
 have z120:((c.toNat:Int) == 120)=false:=byte_ne (d:=120) n120
 have z117:((c.toNat:Int) == 117)=false:=byte_ne (d:=117) n117
 have z85:((c.toNat:Int) == 85)=false:=byte_ne (d:=85) n85
 have HNS:=Lib.hid hns
 clear hc hcq hns
 go_enter Tryz.func185,Tryz.ntmps185
 go_wp2_with fail
 go_loop [12] (fun x=>∃ k:Nat,k≤8∧x=.int .i64 k∧∀ j,j<k→saySigns.getD j 0≠c) (fun x=>8 - (intOf x).toNat)
 case atStart=>exact⟨0,by omega,rfl,fun j hj=>by omega⟩
 case round=>
  obtain⟨k,hk,rfl,hbef⟩:=hrel
  have HBF:=Lib.hid hbef
  clear hbef
  by_cases hlt:k<8
  ·obtain⟨y,hy⟩:∃ y,saySigns.getD k 0=y:=⟨_,rfl⟩
   have hik:∀ u:World,(Instr.index 9 (.string { data:=#[97,98,102,110,114,116,118,92] }) (.int .i64 (k:Int))).run Tryz.prog u=.ok (.int .u8 (y.toNat:Int)) u:=fun u=>by
    rw[← hy]
    have:=index_at (B saySigns) (k:Int) k rfl (by rw[bsize];exact hlt) u
    have e:(B saySigns)[k]'(by rw[bsize];exact hlt)=saySigns.getD k 0:=by
     have e1:=at_data (s:=B saySigns) (i:=k) (by rw[bsize];exact hlt)
     rw[← e1]
     simp [bdata,List.getD,show k<saySigns.length from hlt]
    rw[e] at this
    exact this
   have hyc:c≠y:=fun g=>HNS.out k hlt (by rw[hy];exact g.symm)
   have zy:((c.toNat:Int) == (y.toNat:Int))=false:=byte_ne hyc
   have HN:Hid (∀ j,j<k+1→saySigns.getD j 0≠c):=Lib.hid (fun j hj=>HNS.out j (by omega))
   clear hyc
   go_wp2_with fail
   go_round
   case rel=>exact⟨k+1,by omega,by go_num,HN.out⟩
   case measure=>simp [intOf];omega
  ·obtain rfl:k=8:=by omega
   go_wp2_with (go_at_call 191;refine(refNumber_8z s _ _ (i+1) 3 _ (by omega) rfl hs (by omega) (by omega)).mono ?_;rintro e w' ⟨rfl,rfl⟩;rw[HO.out];simp only[numM])
   all_goals(try go_region)
   all_goals(try go_wp2_with fail)
   all_goals(try go_ret3)
   all_goals exact RefEsc.mk HE.out (escT_byte _ _ (by decide)) rfl (((Below.refl _ _).alloc (Nat.le_refl _) _).alloc (by rw[World.size_alloc];exact Nat.le_succ _) _).drew
open Go.RowKit
theorem octal_step (c:UInt8) (ho:¬ (c=48∨c=49∨c=50∨c=51∨c=52∨c=53∨c=54∨c=55)):nStep 8 (some 0) c=none:=by
 have hd:isDig 8 c=false:=by
  unfold isDig
  refine decide_eq_false (fun h=>ho ?_)
  unfold digZ at h
  have h8:c.toNat=48∨c.toNat=49∨c.toNat=50∨c.toNat=51∨c.toNat=52∨c.toNat=53∨c.toNat=54∨c.toNat=55:=by
   split at h
   ·omega
   ·split at h
    ·omega
    ·split at h <;> omega
  rcases h8 with e|e|e|e|e|e|e|e
  ·exact .inl (UInt8.toNat_inj.1 e)
  ·exact .inr (.inl (UInt8.toNat_inj.1 e))
  ·exact .inr (.inr (.inl (UInt8.toNat_inj.1 e)))
  ·exact .inr (.inr (.inr (.inl (UInt8.toNat_inj.1 e))))
  ·exact .inr (.inr (.inr (.inr (.inl (UInt8.toNat_inj.1 e)))))
  ·exact .inr (.inr (.inr (.inr (.inr (.inl (UInt8.toNat_inj.1 e))))))
  ·exact .inr (.inr (.inr (.inr (.inr (.inr (.inl (UInt8.toNat_inj.1 e)))))))
  ·exact .inr (.inr (.inr (.inr (.inr (.inr (.inr (UInt8.toNat_inj.1 e)))))))
 rw[nStep,hd]
 rfl
theorem signE_none {c q:UInt8} (hns:∀ k,k<8→saySigns.getD k 0≠c) (hcq:c≠q):signE c q=(0,false,0):=by
 unfold signE
 rw[if_neg (fun g=>hns 0 (by decide) g.symm),if_neg (fun g=>hns 1 (by decide) g.symm),if_neg (fun g=>hns 2 (by decide) g.symm),if_neg (fun g=>hns 3 (by decide) g.symm),if_neg (fun g=>hns 4 (by decide) g.symm),if_neg (fun g=>hns 5 (by decide) g.symm),if_neg (fun g=>hns 6 (by decide) g.symm),if_neg (fun g=>g.elim (fun g=>hns 7 (by decide) g.symm) hcq)]
theorem octal_none {l:List UInt8} {i:Nat} {c:UInt8} (hc:l[i+1]? = some c) (ho:¬ (c=48∨c=49∨c=50∨c=51∨c=52∨c=53∨c=54∨c=55)):numAt l (i+1) 3 8=none:=by
 unfold numAt
 split
 ·next h=>
  refine nTo_none h (k:=1) (by omega) ?_
  have h1:=nTo_succ (base:=8) (l:=l) (i:=i+1) (k:=0) (by omega)
  rw[Nat.zero_add] at h1
  rw[h1]
  have hl:l[i+1+0]'(by omega)=c:=by
   have:=List.getElem?_eq_getElem (l:=l) (i:=i+1) (by omega)
   rw[hc] at this
   exact(Option.some.inj this).symm
  rw[hl]
  exact octal_step c ho
 ·rfl
theorem refEsc_any (s:ByteArray) (i:Nat) (q:UInt8) (w:World) (hs:s.size≤140737488355328) (hi:i<s.size) (hq:q=34∨q=39) :
  Calls Tryz.prog 185 #[.string s,.int .i64 i,.int .u8 (q.toNat:Int)] w (RefEsc (escV s.data.toList i q) w):=by
 by_cases hin':s.size≤i+1
 ·exact refEsc_end s i q w hs hin' hi
 have hin:i+1<s.size:=by omega
 obtain⟨c,hc⟩:∃ c,s[i+1]=c:=⟨_,rfl⟩
 have hat:s.data.toList[i+1]? = some c:=by rw[List.getElem?_eq_getElem (by rw[sdata];exact hin),at_data hin,hc]
 by_cases hcq:c=q
 ·exact refEsc_quote s i q w hs hin (hc.trans hcq) hq
 by_cases hk:∃ k,k<8∧saySigns.getD k 0=c
 ·obtain⟨k,hk,e⟩:=hk
  exact refEsc_sign s i c q w hs hin hc hcq k hk e
 have hns:∀ k,k<8→saySigns.getD k 0≠c:=fun k h e=>hk ⟨k,h,e⟩
 have hev:=escV_some (q:=q) hat
 by_cases n120:c=120
 ·rw[if_pos n120] at hev
  cases ho:numAt s.data.toList (i+2) 2 16 with
  |none=>exact refEsc_x_none s i c q w hs hin hc hcq n120 hev ho hns
  |some n=>
   have hb:=numAt_bound (by omega) (by omega) ho
   exact refEsc_x_good s i c q w hs hin hc hcq n120 hev n ho (by omega) hns
 rw[if_neg n120] at hev
 by_cases n117:c=117
 ·rw[if_pos n117] at hev
  cases ho:numAt s.data.toList (i+2) 4 16 with
  |none=>exact refEsc_u_none s i c q w hs hin hc hcq n120 n117 hev ho hns
  |some n=>
   have hb:=numAt_bound (by omega) (by omega) ho
   by_cases h1:n<55296
   ·exact refEsc_u_lo s i c q w hs hin hc hcq n120 n117 hev n ho h1 hns
   by_cases h2:57343<n
   ·exact refEsc_u_hi s i c q w hs hin hc hcq n120 n117 hev n ho (by omega) h2 hns
   ·exact refEsc_u_bad s i c q w hs hin hc hcq n120 n117 hev n ho (by omega) (by omega) hns
 rw[if_neg n117] at hev
 by_cases n85:c=85
 ·rw[if_pos n85] at hev
  cases ho:numAt s.data.toList (i+2) 8 16 with
  |none=>exact refEsc_U_none s i c q w hs hin hc hcq n120 n117 n85 hev ho hns
  |some n=>
   by_cases h0:1114111<n
   ·exact refEsc_U_big s i c q w hs hin hc hcq n120 n117 n85 hev n ho h0 hns
   by_cases h1:n<55296
   ·exact refEsc_U_lo s i c q w hs hin hc hcq n120 n117 n85 hev n ho h1 hns
   by_cases h2:57343<n
   ·exact refEsc_U_hi s i c q w hs hin hc hcq n120 n117 n85 hev n ho (by omega) h2 hns
   ·exact refEsc_U_bad s i c q w hs hin hc hcq n120 n117 n85 hev n ho (by omega) (by omega) hns
 rw[if_neg n85] at hev
 have hev2:escV s.data.toList i q=byteE s.data.toList i 1 3 8:=by
  rw[hev]
  by_cases ho:c=48∨c=49∨c=50∨c=51∨c=52∨c=53∨c=54∨c=55
  ·rw[if_pos ho]
  ·rw[if_neg ho,signE_none hns hcq,byteE,octal_none hat ho]
 cases ho:numAt s.data.toList (i+1) 3 8 with
 |none=>exact refEsc_d_none s i c q w hs hin hc hcq n120 n117 n85 hev2 ho hns
 |some n=>
  by_cases h0:255<n
  ·exact refEsc_d_big s i c q w hs hin hc hcq n120 n117 n85 hev2 n ho h0 hns
  ·exact refEsc_d_good s i c q w hs hin hc hcq n120 n117 n85 hev2 n ho (by omega) hns
open Go.RowKit
def hx (n:Nat):UInt8:=if n<10 then UInt8.ofNat (48+n) else UInt8.ofNat (87+n)
open Go.RowKit
theorem noCR_snoc (l:List UInt8) (c:UInt8):noCR (l ++ [c])=noCR l ++ (if c=13 then[] else[c]):=by
 unfold noCR
 rw[List.filter_append]
 congr 1
 by_cases e:c=13
 ·rw[if_pos e,e];rfl
 ·rw[if_neg e];simp [e]
theorem noCR_few (l:List UInt8):(noCR l).length≤l.length:=List.length_filter_le _ _
open Go.RowKit
theorem index_first {l:List UInt8} {c:UInt8} {j:Nat} (h:l[j]? = some c) (hb:∀ m,m<j→l[m]? ≠ some c):Lib.indexByte l c=j:=by
 have hg:=Lib.indexByte_ge l c
 by_cases h1:Lib.indexByte l c = -1
 ·exact absurd h (Lib.indexByte_none h1 j)
 obtain⟨o,ho⟩:∃ o:Nat,Lib.indexByte l c=o:=⟨(Lib.indexByte l c).toNat,by omega⟩
 obtain⟨h2,h3⟩:=Lib.indexByte_some ho
 by_cases h4:o<j
 ·exact absurd h2 (hb o h4)
 by_cases h5:j<o
 ·exact absurd h (h3 j h5)
 omega
theorem index_never {l:List UInt8} {c:UInt8} (hb:∀ m,m<l.length→l[m]? ≠ some c):Lib.indexByte l c = -1:=by
 have hg:=Lib.indexByte_ge l c
 by_cases h1:Lib.indexByte l c = -1
 ·exact h1
 obtain⟨o,ho⟩:∃ o:Nat,Lib.indexByte l c=o:=⟨(Lib.indexByte l c).toNat,by omega⟩
 obtain⟨h2,h3⟩:=Lib.indexByte_some ho
 exact absurd h2 (hb o (List.getElem?_eq_some_iff.1 h2).1)
theorem raw_end {l:List UInt8} {j:Nat} (h:(l.drop 1)[j]? = some 96) (hb:∀ m,m<j→(l.drop 1)[m]? ≠ some 96) (he:j+2=l.length):rawOf l=(noCR ((l.drop 1).take j),0,0):=by
 have hi:=index_first h hb
 unfold rawOf
 rw[hi,List.length_drop,if_pos ⟨by omega,by omega⟩]
 congr 3
 omega
theorem raw_early {l:List UInt8} {j:Nat} (h:(l.drop 1)[j]? = some 96) (hb:∀ m,m<j→(l.drop 1)[m]? ≠ some 96) (he:j+2≠l.length):rawOf l=([],106,0):=by
 have hi:=index_first h hb
 have hj:=(List.getElem?_eq_some_iff.1 h).1
 unfold rawOf
 rw[List.length_drop] at hj
 rw[hi,List.length_drop,if_neg (by omega)]
theorem raw_never {l:List UInt8} (hb:∀ m,m<(l.drop 1).length→(l.drop 1)[m]? ≠ some 96):rawOf l=([],106,0):=by
 have hi:=index_never hb
 unfold rawOf
 rw[hi,if_neg (by omega)]
theorem noCR_more {t:List UInt8} {j:Nat} {c:UInt8} (h:t[j]? = some c):noCR (t.take (j+1))=noCR (t.take j) ++ (if c=13 then[] else[c]):=by
 obtain⟨hj,e⟩:=List.getElem?_eq_some_iff.1 h
 rw[List.take_succ_eq_append_getElem hj,e,noCR_snoc]
theorem refUnq_raw (s:ByteArray) (w:World) (hs:s.size≤140737488351232) (h1:1≤s.size) (h0:s[0]=96) :
  Calls Tryz.prog 169 #[.string s] w (UnqPost (rawOf s.data.toList) w):=by
 have hix0:∀ u:World,(Instr.index 9 (.string s) (.int .i64 0)).run Tryz.prog u=.ok (.int .u8 96) u:=fun u=>by
  rw[index_at s 0 0 (by omega) (by omega) u,h0];rfl
 have hd:decide ((0:Int)<(s.size:Int))=true:=decide_eq_true (by omega)
 have HT:Hid (∃ t:List UInt8,t=s.data.toList.drop 1∧t.length+1=s.size∧∀ j c,∀ h:j+1<s.size,s[j+1]=c→t[j]? = some c):=Lib.hid ⟨_,rfl,by rw[List.length_drop,sdata];omega,fun j c h e=>by
  rw[List.getElem?_drop,Nat.add_comm 1 j,List.getElem?_eq_getElem (by rw[sdata];exact h),at_data h,e]⟩
 obtain⟨t,ht,htl,hta⟩:=HT.out
 obtain⟨R,hR⟩:∃ R,rawOf s.data.toList=R:=⟨_,rfl⟩
 have HEnd:Hid (∀ j,t[j]? = some 96→(∀ m,m<j→t[m]? ≠ some 96)→j+2=s.size→R=(noCR (t.take j),0,0)):=Lib.hid (fun j h hb he=>by
  subst ht;rw[← hR];exact raw_end h hb (by rw[sdata];exact he))
 have HEarly:Hid (∀ j,t[j]? = some 96→(∀ m,m<j→t[m]? ≠ some 96)→j+2≠s.size→R=([],106,0)):=Lib.hid (fun j h hb he=>by
  subst ht;rw[← hR];exact raw_early h hb (by rw[sdata];exact he))
 have HNever:Hid ((∀ m,m<t.length→t[m]? ≠ some 96)→R=([],106,0)):=Lib.hid (fun hb=>by
  subst ht;rw[← hR];exact raw_never hb)
 rw[hR]
 have HTA:=Lib.hid hta
 clear hta ht hR HT h0
 go_enter Tryz.func169,Tryz.ntmps169
 go_wp2_with fail
 go_loop [5,6] (fun o i=>∃ j:Nat,j+1≤s.size∧i=.int .i64 ((j:Int)+1)∧o=.string (B (noCR (t.take j)))∧∀ m,m<j→t[m]? ≠ some 96) (fun _ i=>s.size - (intOf i).toNat)
 case atStart=>exact⟨0,by omega,rfl,rfl,fun m hm=>by omega⟩
 case round=>
  obtain⟨j,hj,rfl,rfl,hbef⟩:=hrel
  have HBF:=Lib.hid hbef
  clear hbef
  have hle:=noCR_few (t.take j)
  rw[List.length_take] at hle
  by_cases hlt:j+1<s.size
  ·obtain⟨c,hc⟩:∃ c,s[j+1]'hlt=c:=⟨_,rfl⟩
   have hix:∀ u:World,(Instr.index 9 (.string s) (.int .i64 ((j:Int)+1))).run Tryz.prog u=.ok (.int .u8 (c.toNat:Int)) u:=fun u=>by
    rw[← hc];exact index_at s _ (j+1) (by omega) hlt u
   have hsl:∀ u:World,(Instr.slice 9 (.string s) (some (.int .i64 ((j:Int)+1))) (some (.int .i64 ((j:Int)+1+1))) none).run Tryz.prog u=.ok (.string (B [c])) u:=fun u=>by
    have:=slice_one s (j+1) hlt c hc u
    simpa using this
   have HC:=Lib.hid (HTA.out j c hlt hc)
   have hdl:decide ((j:Int)+1<(s.size:Int))=true:=decide_eq_true (by omega)
   have hc0:(0:Int)≤(c.toNat:Int):=by omega
   have hc1:(c.toNat:Int)≤255:=by have:=UInt8.toNat_lt c;omega
   have hcat:=cat_eq (x:=noCR (t.take j)) (y:=[c]) (by simp only[List.length_cons,List.length_nil];omega)
   by_cases h96:c=96
   ·have z96:((c.toNat:Int) == 96)=true:=byte_eq (d:=96) h96
    by_cases hend:j+2=s.size
    ·have hpe:((j:Int)+1+1 == (s.size:Int))=true:=beq_iff_eq.2 (by omega)
     have HR:Hid (R=(noCR (t.take j),0,0)):=Lib.hid (HEnd.out j (h96 ▸ HC.out) HBF.out hend)
     clear h96 hc hle hcat hsl
     go_wp2_with fail
     go_ret3
     exact⟨by rw[HR.out];rfl,Below.refl _ _⟩
    ·have hpe:((j:Int)+1+1 == (s.size:Int))=false:=beq_eq_false_iff_ne.2 (by omega)
     have HR:Hid (R=([],106,0)):=Lib.hid (HEarly.out j (h96 ▸ HC.out) HBF.out hend)
     clear h96 hc hle hcat hsl
     go_wp2_with fail
     go_ret3
     exact⟨by rw[HR.out];rfl,Below.refl _ _⟩
   ·have z96:((c.toNat:Int) == 96)=false:=byte_ne (d:=96) h96
    have HB2:Hid (∀ m,m<j+1→t[m]? ≠ some 96):=Lib.hid (fun m hm=>by
     by_cases e:m=j
     ·subst e;rw[HC.out];simpa using h96
     ·exact HBF.out m (by omega))
    have HM:=Lib.hid (noCR_more HC.out)
    by_cases h13:c=13
    ·have z13:((c.toNat:Int) != 13)=false:=byte_eq' (d:=13) h13
     have HM2:Hid (noCR (t.take j)=noCR (t.take (j+1))):=Lib.hid (by rw[HM.out,if_pos h13,List.append_nil])
     clear HM h96 h13 hc hle hcat hsl
     go_wp2_with fail
     go_round
     case rel=>exact⟨j+1,by omega,by go_num,by rw[HM2.out],HB2.out⟩
     case measure=>simp [intOf];omega
    ·have z13:((c.toNat:Int) != 13)=true:=byte_ne' (d:=13) h13
     have HM2:Hid (noCR (t.take j) ++ [c]=noCR (t.take (j+1))):=Lib.hid (by rw[HM.out,if_neg h13])
     clear HM h96 h13 hc hle
     go_wp2_with fail
     go_round
     case rel=>exact⟨j+1,by omega,by go_num,by rw[HM2.out],HB2.out⟩
     case measure=>simp [intOf];omega
  ·have hdl:decide ((j:Int)+1<(s.size:Int))=false:=decide_eq_false (by omega)
   have HR:Hid (R=([],106,0)):=Lib.hid (HNever.out (fun m hm=>HBF.out m (by omega)))
   clear hle
   go_wp2_with fail
   go_ret3
   exact⟨by rw[HR.out];rfl,Below.refl _ _⟩
open Go.RowKit
theorem refUnq_text (s:ByteArray) (w:World) (hs:s.size≤140737488351232) (h1:1≤s.size) (h0:s[0]=34) :
  Calls Tryz.prog 169 #[.string s] w (UnqPost (uqAt s.data.toList 1 []) w):=by
 have hix0:∀ u:World,(Instr.index 9 (.string s) (.int .i64 0)).run Tryz.prog u=.ok (.int .u8 34) u:=fun u=>by
  rw[index_at s 0 0 (by omega) (by omega) u,h0];rfl
 have hd:decide ((0:Int)<(s.size:Int))=true:=decide_eq_true (by omega)
 have hz:((s.size:Int) == 0)=false:=beq_eq_false_iff_ne.2 (by omega)
 obtain⟨R,hR⟩:∃ R,uqAt s.data.toList 1 []=R:=⟨_,rfl⟩
 rw[hR]
 have HR:=Lib.hid hR
 clear hR h0
 go_enter Tryz.func169,Tryz.ntmps169
 go_wp2_with fail
 go_loopw [5,7] (fun o i wr=>∃ (p:Nat) (acc:List UInt8),p≤s.size∧i=.int .i64 p∧o=.string (B acc)∧acc.length≤p∧uqAt s.data.toList p acc=R∧Below w.heap.size w wr) (fun _ i _=>s.size - (intOf i).toNat)
 case atStart=>exact⟨1,[],h1,rfl,rfl,by simp,HR.out,Below.refl _ _⟩
 case round=>
  obtain⟨p,acc,hp,rfl,rfl,hacc,hu,hbel⟩:=hrel
  have hsd:=sdata s
  have hsz:=hbel.size
  have HB:=Lib.hid hbel
  have HU:=Lib.hid hu
  clear hbel hu
  by_cases hlt:p<s.size
  ·have HN:=Lib.hid (uqAt_step (l:=s.data.toList) (p:=p) (acc:=acc) (by omega))
   obtain⟨c,hc⟩:∃ c,s[p]'hlt=c:=⟨_,rfl⟩
   rw[at_data hlt,hc,HU.out] at HN
   have hix:∀ u:World,(Instr.index 9 (.string s) (.int .i64 (p:Int))).run Tryz.prog u=.ok (.int .u8 (c.toNat:Int)) u:=fun u=>by
    rw[← hc];exact index_at s _ p rfl hlt u
   have hsl:=slice_one s p hlt c hc
   have hdl:decide ((p:Int)<(s.size:Int))=true:=decide_eq_true (by omega)
   have hc0:(0:Int)≤(c.toNat:Int):=by omega
   have hc1:(c.toNat:Int)≤255:=by have:=UInt8.toNat_lt c;omega
   have HD:=Lib.hid hsd
   clear hsd hc
   by_cases h10:c=10
   ·have z10:((c.toNat:Int) != 10)=false:=byte_eq' (d:=10) h10
    have HN1:Hid (R=([],106,0)):=Lib.hid (by rw[HN.out,if_neg (by rw[h10];decide),if_neg (by rw[h10];decide),if_pos h10])
    clear HN h10 hsl
    go_wp2_with fail
    go_ret3
    exact⟨by rw[HN1.out];rfl,HB.out⟩
   have z10:((c.toNat:Int) != 10)=true:=byte_ne' (d:=10) h10
   by_cases h34:c=34
   ·have z34:((c.toNat:Int) == 34)=true:=byte_eq (d:=34) h34
    by_cases hend:p+1=s.size
    ·have HN1:Hid (R=(acc,0,0)):=Lib.hid (by rw[HN.out,if_neg (by rw[h34];decide),if_pos h34,if_pos (by rw[HD.out];exact hend)])
     have hpe:((p:Int)+1 == (s.size:Int))=true:=beq_iff_eq.2 (by omega)
     clear HN h34 h10 hsl
     go_wp2_with fail
     go_ret3
     exact⟨by rw[HN1.out];rfl,HB.out⟩
    ·have HN1:Hid (R=([],106,0)):=Lib.hid (by rw[HN.out,if_neg (by rw[h34];decide),if_pos h34,if_neg (by rw[HD.out];exact hend)])
     have hpe:((p:Int)+1 == (s.size:Int))=false:=beq_eq_false_iff_ne.2 (by omega)
     clear HN h34 h10 hsl
     go_wp2_with fail
     go_ret3
     exact⟨by rw[HN1.out];rfl,HB.out⟩
   have z34:((c.toNat:Int) == 34)=false:=byte_ne (d:=34) h34
   by_cases h92:c=92
   ·have z92:((c.toNat:Int) == 92)=true:=byte_eq (d:=92) h92
    have hfit:=escV_fit s.data.toList p 34
    obtain⟨v,hv⟩:∃ v,escV s.data.toList p 34=v:=⟨_,rfl⟩
    have HN1:Hid (R=if v.2.2=0 then([],108,p) else uqAt s.data.toList (p+v.2.2) (acc ++ escB v)):=Lib.hid (by rw[HN.out,if_pos h92,hv])
    rw[hv] at hfit
    have HF:=Lib.hid hfit
    have HV:=Lib.hid hv
    clear HN h92 hfit hv h10 h34 hsl
    obtain⟨n,r,wd⟩:=v
    by_cases hw:wd=0
    ·have HN2:Hid (R=([],108,p)):=Lib.hid (by rw[HN1.out,if_pos hw])
     have hwz:((wd:Int) == 0)=true:=by rw[hw];rfl
     clear HN1 HF
     go_wp2_with (go_at_call 185;refine(refEsc_any s p 34 _ (by omega) hlt (.inl rfl)).mono ?_;rintro e w1 ⟨rfl,hb⟩;rw[HV.out];have HB1:=Lib.hid hb;clear hb)
     go_ret3
     exact⟨by rw[HN2.out];rfl,HB.out.trans (HB1.out.mono hsz)⟩
    ·have hfit:=HF.out
     obtain⟨hok,hfw⟩:=hfit
     obtain⟨f1,f2,f3⟩:=hfw hw
     simp only[] at f1 f2 f3
     have HN2:Hid (uqAt s.data.toList (p+wd) (acc ++ escB (n,r,wd))=R):=Lib.hid (by rw[HN1.out,if_neg hw])
     have hwz:((wd:Int) == 0)=false:=beq_eq_false_iff_ne.2 (by omega)
     have hpw:p+wd≤s.size:=by have:=HD.out;omega
     have hal:(acc ++ escB (n,r,wd)).length≤p+wd:=by rw[List.length_append];omega
     have HA:=Lib.hid hal
     have het:escT (n,r,wd)=escB (n,r,wd):=by unfold escT;rw[if_neg hw]
     have hcat:=cat_eq (x:=acc) (y:=escB (n,r,wd)) (by omega)
     obtain⟨b,hb0⟩:∃ b,escB (n,r,wd)=b:=⟨_,rfl⟩
     rw[hb0] at HN2 HA het hcat
     have HT:=Lib.hid het
     clear HN1 HF hok hfw f1 f3 hal hw het hb0
     go_wp2_with (go_at_call 185;refine(refEsc_any s p 34 _ (by omega) hlt (.inl rfl)).mono ?_;rintro e w1 ⟨rfl,hb⟩;rw[HV.out,HT.out];have HB1:=Lib.hid hb;clear hb)
     have HB0:=Lib.hid (HB.out.trans (HB1.out.mono hsz))
     go_roundw
     case rel=>exact⟨p+wd,acc ++ b,hpw,by go_num,rfl,HA.out,HN2.out,HB0.out⟩
     case measure=>simp [intOf];omega
   ·have z92:((c.toNat:Int) == 92)=false:=byte_ne (d:=92) h92
    have HN1:Hid (uqAt s.data.toList (p+1) (acc ++ [c])=R):=Lib.hid (by rw[HN.out,if_neg h92,if_neg h34,if_neg h10])
    have hal:(acc ++ [c]).length≤p+1:=by simp;omega
    have HA:=Lib.hid hal
    have hcat:=cat_eq (x:=acc) (y:=[c]) (by simp only[List.length_cons,List.length_nil];omega)
    clear HN h92 h34 h10 hal
    go_wp2_with fail
    go_roundw
    case rel=>exact⟨p+1,acc ++ [c],by omega,by go_num,rfl,HA.out,HN1.out,HB.out⟩
    case measure=>simp [intOf];omega
  ·have HN1:Hid (R=([],106,0)):=Lib.hid (by rw[← HU.out,uqAt_past (by omega)])
   have hdl:decide ((p:Int)<(s.size:Int))=false:=decide_eq_false (by omega)
   clear hsd
   go_wp2_with fail
   go_ret3
   exact⟨by rw[HN1.out];rfl,HB.out⟩
theorem refUnq_none (s:ByteArray) (w:World) (h:s.size=0) :
  Calls Tryz.prog 169 #[.string s] w (UnqPost ([],106,0) w):=by
 have hd:decide ((0:Int)<(s.size:Int))=false:=decide_eq_false (by omega)
 have hz:((s.size:Int) == 0)=true:=beq_iff_eq.2 (by omega)
 clear h
 go_enter Tryz.func169,Tryz.ntmps169
 go_wp2_with fail
 go_ret3
 exact⟨rfl,Below.refl _ _⟩
theorem refUnq_other (s:ByteArray) (w:World) (h1:1≤s.size) (c:UInt8) (h0:s[0]=c) (n96:c≠96) (n34:c≠34) :
  Calls Tryz.prog 169 #[.string s] w (UnqPost ([],106,0) w):=by
 have hix0:∀ u:World,(Instr.index 9 (.string s) (.int .i64 0)).run Tryz.prog u=.ok (.int .u8 (c.toNat:Int)) u:=fun u=>by
  rw[index_at s 0 0 (by omega) (by omega) u,h0]
 have hd:decide ((0:Int)<(s.size:Int))=true:=decide_eq_true (by omega)
 have hz:((s.size:Int) == 0)=false:=beq_eq_false_iff_ne.2 (by omega)
 have z96:((c.toNat:Int) == 96)=false:=byte_ne (d:=96) n96
 have z34:((c.toNat:Int) != 34)=true:=byte_ne' (d:=34) n34
 clear h0 n96 n34
 go_enter Tryz.func169,Tryz.ntmps169
 go_wp2_with fail
 go_ret3
 exact⟨rfl,Below.refl _ _⟩
open Go.RowKit
theorem pre_one {l:List UInt8} {c d:UInt8} (h:0<l.length) (e:l[0]=d):Lib.hasPrefix l [c]=decide (d=c):=by
 cases l with
 |nil=>simp at h
 |cons a t=>
  simp only[List.getElem_cons_zero] at e
  subst e
  by_cases g:a=c
  ·subst g;simp [Lib.hasPrefix]
  ·have:¬ c=a:=fun x=>g x.symm
   simp [Lib.hasPrefix,List.isPrefixOf,g,this]
theorem refUnq_any (s:ByteArray) (w:World) (hs:s.size≤140737488351232) :
  Calls Tryz.prog 169 #[.string s] w (UnqPost (unqOf s.data.toList) w):=by
 by_cases h:s.size=0
 ·have e:s.data.toList=[]:=List.eq_nil_of_length_eq_zero (by rw[sdata];exact h)
  have hu:unqOf s.data.toList=([],106,0):=by rw[e];rfl
  rw[hu]
  exact refUnq_none s w h
 have h1:0<s.size:=by omega
 have hl:0<s.data.toList.length:=by rw[sdata];exact h1
 obtain⟨c,hc⟩:∃ c,s[0]=c:=⟨_,rfl⟩
 have p96:=pre_one (c:=96) hl ((at_data h1).trans hc)
 have p34:=pre_one (c:=34) hl ((at_data h1).trans hc)
 by_cases h96:c=96
 ·have hu:unqOf s.data.toList=rawOf s.data.toList:=by rw[unqOf,if_pos (by rw[p96];exact decide_eq_true h96)]
  rw[hu]
  exact refUnq_raw s w hs h1 (hc.trans h96)
 by_cases h34:c=34
 ·have hu:unqOf s.data.toList=uqAt s.data.toList 1 []:=by rw[unqOf,if_neg (by rw[p96,decide_eq_false h96];decide),if_pos (by rw[p34];exact decide_eq_true h34)]
  rw[hu]
  exact refUnq_text s w hs h1 (hc.trans h34)
 ·have hu:unqOf s.data.toList=([],106,0):=by rw[unqOf,if_neg (by rw[p96,decide_eq_false h96];decide),if_neg (by rw[p34,decide_eq_false h34];decide)]
  rw[hu]
  exact refUnq_other s w h1 c hc h96 h34
open Go.RowKit
def ldC (n:Nat):Int:=if n=2 then 192 else if n=3 then 224 else 240
def capC (n:Nat):Int:=if n=2 then 32 else if n=3 then 16 else 8
def leastC (n:Nat):Int:=if n=2 then 128 else if n=3 then 2048 else 65536
def bz (l:List UInt8) (j:Nat):Int:=((l.getD j 0).toNat:Int)
def okTo (l:List UInt8) (n:Nat):Nat→Bool
 |0=>decide (ldC n≤bz l 1) && decide (bz l 1 - ldC n<capC n)
 |k+1=>okTo l n k && decide (bz l (2+k) / 64*64=128)
def uTo (l:List UInt8) (n:Nat):Nat→Int
 |0=>bz l 1 - ldC n
 |k+1=>uTo l n k*64+bz l (2+k) % 64
def hitC (l:List UInt8) (n:Nat):Prop:=okTo l n (n - 1)=true∧uTo l n (n - 1)≤1114111∧(uTo l n (n - 1)<55296∨57343<uTo l n (n - 1))∧leastC n≤uTo l n (n - 1)
open Classical in
noncomputable def charC (l:List UInt8):Int × Nat:=
 if 3≤l.length∧hitC l 2 then(uTo l 2 1,2) else if 4≤l.length∧hitC l 3 then(uTo l 3 2,3) else if 5≤l.length∧hitC l 4 then(uTo l 4 3,4) else(0,0)
theorem bz_bounds (l:List UInt8) (j:Nat):0≤bz l j∧bz l j≤255:=by
 have:=UInt8.toNat_lt (l.getD j 0)
 unfold bz
 omega
theorem ldC_bounds (n:Nat):192≤ldC n∧ldC n≤240:=by unfold ldC;split <;> (try split) <;> omega
theorem uTo_bounds (l:List UInt8) (n k:Nat) (hk:k≤3) : -67108864≤uTo l n k∧uTo l n k≤67108864:=by
 have h1:=bz_bounds l 1
 have h2:=bz_bounds l 2
 have h3:=bz_bounds l 3
 have h4:=bz_bounds l 4
 have hl:=ldC_bounds n
 match k,hk with
 |0,_=>simp only[uTo];omega
 |1,_=>simp only[uTo,Nat.add_zero];omega
 |2,_=>simp only[uTo,Nat.add_zero,Nat.reduceAdd];omega
 |3,_=>simp only[uTo,Nat.add_zero,Nat.reduceAdd];omega
theorem and192 (n:Int) (h0:0≤n) (h1:n≤255):bits .and .u8 n 192=n / 64*64:=by
 have all:∀ j:Fin 256,bits .and .u8 (j.val:Int) 192=(j.val:Int) / 64*64:=by decide +kernel
 have:=all ⟨n.toNat,by omega⟩
 simpa [show((n.toNat:Nat):Int)=n by omega] using this
theorem and63 (n:Int) (h0:0≤n) (h1:n≤255):bits .and .u8 n 63=n % 64:=by
 have all:∀ j:Fin 256,bits .and .u8 (j.val:Int) 63=(j.val:Int) % 64:=by decide +kernel
 have:=all ⟨n.toNat,by omega⟩
 simpa [show((n.toNat:Nat):Int)=n by omega] using this
def Chr (v:Int × Nat) (w:World) (e:Ending) (w':World):Prop:=e=.returned (.tuple #[.int .i64 v.1,.int .i64 v.2])∧Below w.heap.size w w'
end Go.Proofs.YtcekbbkidipbnaaGreat.tok
