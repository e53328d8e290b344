/-
  Texts put together: Utf, Shown, BackFacts, BackBase, RefEscA, RefEscB, RefEscC, RefEscD.
-/
import Derived.Test.YtcekbbkidipbnaaGreatL25
import Derived.Laws.Bits128
import Derived.Test.YtcekbbkidipbnaaGreatL23
import Derived.Test.YtcekbbkidipbnaaGreatL21
import Derived.RegionTactic
import Derived.IntWalk
import Derived.Deep.RegionHeld3
set_option maxRecDepth 100000
set_option maxHeartbeats 8000000
namespace Go.Proofs.YtcekbbkidipbnaaGreat.tok
open Go.RowKit
theorem i64_and63 (n:Int):bits .and .i64 n 63=n % 64:=by
 have h63:(BitVec.ofInt 64 63).toNat=2 ^ 6 - 1:=by decide
 have key:(BitVec.ofInt 64 n &&& BitVec.ofInt 64 63).toNat=(n % ((2 ^ 64:Nat):Int)).toNat % 2 ^ 6:=by
  rw[BitVec.toNat_and,BitVec.toNat_ofInt,h63,Nat.and_two_pow_sub_one_eq_mod]
 show IntKind.i64.wrap ((BitVec.ofInt 64 n &&& BitVec.ofInt 64 63).toNat:Nat)=n % 64
 rw[key,IntKind.wrap_i64]
 omega
theorem conv_new (zs:List Int) (h:∀ z∈zs,0≤z∧z≤255) (n:Nat) (hn:zs.length=n) (cs:Array Value) (hc:cs=(zs.map (Value.int .u8)).toArray) (N:Nat) (u:World) (hN:N=u.heap.size) :
  (convert 141 9 (.slice (some ⟨N,0,none⟩) n n)).run Tryz.prog (u.alloc (.cells cs 5))=.ok (.string (B (zs.map fun z=>z.toNat.toUInt8))) (u.alloc (.cells cs 5)):=by
 subst hn hc hN
 have hl:(zs.map fun z=>z.toNat.toUInt8).length=zs.length:=List.length_map ..
 rw[← hl]
 refine run_convert_bytes_back _ _ _ _ ⟨u.heap.size,0,none⟩ _ _ Tryz.underlying141 Tryz.underlying5 Tryz.underlying9 (fun j hj=>?_)
 rw[List.length_map] at hj
 rw[Addr.add_lit,Nat.zero_add,cell_of_row _ _ j _ _ (0,0) (heap_alloc_last u _)]
 have hb:=h zs[j] (List.getElem_mem hj)
 have:(zs[j].toNat.toUInt8.toNat:Int)=zs[j]:=by
  rw[Nat.toUInt8,UInt8.toNat_ofNat',Nat.mod_eq_of_lt (by omega)]
  omega
 rw[List.getElem_map,this]
 simp [hj]
def OneB (x:List UInt8) (w:World) (e:Ending) (w':World):Prop:=e=.returned (.string (B x))∧Below w.heap.size w w'
theorem utf_one (n:Int) (w:World) (h0:0≤n) (h1:n≤127):Calls Tryz.prog 192 #[.int .i64 n] w (OneB (Lib.encodeRune n) w):=by
 have a1:=i64_and63 n
 have a2:=i64_and63 (n / 64)
 have a3:=i64_and63 (n / 4096)
 have HEN:Hid (Lib.encodeRune n=([n]:List Int).map fun z=>z.toNat.toUInt8):=Lib.hid (by unfold Lib.encodeRune;rw[Lib.encodeRuneZ_one h0 h1])
 have cv:∀ u:World,(convert 141 9 (.slice (some ⟨u.heap.size,0,none⟩) 1 1)).run Tryz.prog (u.alloc (.cells #[.int .u8 (n)] 5))=.ok (.string (B (([n]:List Int).map fun z=>z.toNat.toUInt8))) (u.alloc (.cells #[.int .u8 (n)] 5)):=fun u=>
  conv_new [n] (by intro z hz;simp only[List.mem_cons,List.not_mem_nil,or_false] at hz;omega) 1 rfl _ rfl _ u rfl
 rw[← HEN.out] at cv
 go_enter Tryz.func192,Tryz.ntmps192
 go_wp2_with fail
 go_ret
 exact⟨rfl,(Below.refl _ _).alloc (Nat.le_refl _) _⟩
theorem utf_two (n:Int) (w:World) (h0:128≤n) (h1:n≤2047):Calls Tryz.prog 192 #[.int .i64 n] w (OneB (Lib.encodeRune n) w):=by
 have a1:=i64_and63 n
 have a2:=i64_and63 (n / 64)
 have a3:=i64_and63 (n / 4096)
 have HEN:Hid (Lib.encodeRune n=([192+n / 64,128+n % 64]:List Int).map fun z=>z.toNat.toUInt8):=Lib.hid (by unfold Lib.encodeRune;rw[Lib.encodeRuneZ_two h0 h1])
 have cv:∀ u:World,(convert 141 9 (.slice (some ⟨u.heap.size,0,none⟩) 2 2)).run Tryz.prog (u.alloc (.cells #[.int .u8 (192+n / 64),.int .u8 (128+n % 64)] 5))=.ok (.string (B (([192+n / 64,128+n % 64]:List Int).map fun z=>z.toNat.toUInt8))) (u.alloc (.cells #[.int .u8 (192+n / 64),.int .u8 (128+n % 64)] 5)):=fun u=>
  conv_new [192+n / 64,128+n % 64] (by intro z hz;simp only[List.mem_cons,List.not_mem_nil,or_false] at hz;omega) 2 rfl _ rfl _ u rfl
 rw[← HEN.out] at cv
 go_enter Tryz.func192,Tryz.ntmps192
 go_wp2_with fail
 go_ret
 exact⟨rfl,(Below.refl _ _).alloc (Nat.le_refl _) _⟩
theorem utf_three (n:Int) (w:World) (h0:2048≤n) (h1:n≤65535) (hv:n<55296∨57343<n):Calls Tryz.prog 192 #[.int .i64 n] w (OneB (Lib.encodeRune n) w):=by
 have a1:=i64_and63 n
 have a2:=i64_and63 (n / 64)
 have a3:=i64_and63 (n / 4096)
 have HEN:Hid (Lib.encodeRune n=([224+n / 4096,128+n / 64 % 64,128+n % 64]:List Int).map fun z=>z.toNat.toUInt8):=Lib.hid (by unfold Lib.encodeRune;rw[Lib.encodeRuneZ_three (by omega)])
 have cv:∀ u:World,(convert 141 9 (.slice (some ⟨u.heap.size,0,none⟩) 3 3)).run Tryz.prog (u.alloc (.cells #[.int .u8 (224+n / 4096),.int .u8 (128+n / 64 % 64),.int .u8 (128+n % 64)] 5))=.ok (.string (B (([224+n / 4096,128+n / 64 % 64,128+n % 64]:List Int).map fun z=>z.toNat.toUInt8))) (u.alloc (.cells #[.int .u8 (224+n / 4096),.int .u8 (128+n / 64 % 64),.int .u8 (128+n % 64)] 5)):=fun u=>
  conv_new [224+n / 4096,128+n / 64 % 64,128+n % 64] (by intro z hz;simp only[List.mem_cons,List.not_mem_nil,or_false] at hz;omega) 3 rfl _ rfl _ u rfl
 rw[← HEN.out] at cv
 go_enter Tryz.func192,Tryz.ntmps192
 go_wp2_with fail
 go_ret
 exact⟨rfl,(Below.refl _ _).alloc (Nat.le_refl _) _⟩
theorem utf_four (n:Int) (w:World) (h0:65536≤n) (h1:n≤1114111):Calls Tryz.prog 192 #[.int .i64 n] w (OneB (Lib.encodeRune n) w):=by
 have a1:=i64_and63 n
 have a2:=i64_and63 (n / 64)
 have a3:=i64_and63 (n / 4096)
 have HEN:Hid (Lib.encodeRune n=([240+n / 262144,128+n / 4096 % 64,128+n / 64 % 64,128+n % 64]:List Int).map fun z=>z.toNat.toUInt8):=Lib.hid (by unfold Lib.encodeRune;rw[Lib.encodeRuneZ_four h0 h1])
 have cv:∀ u:World,(convert 141 9 (.slice (some ⟨u.heap.size,0,none⟩) 4 4)).run Tryz.prog (u.alloc (.cells #[.int .u8 (240+n / 262144),.int .u8 (128+n / 4096 % 64),.int .u8 (128+n / 64 % 64),.int .u8 (128+n % 64)] 5))=.ok (.string (B (([240+n / 262144,128+n / 4096 % 64,128+n / 64 % 64,128+n % 64]:List Int).map fun z=>z.toNat.toUInt8))) (u.alloc (.cells #[.int .u8 (240+n / 262144),.int .u8 (128+n / 4096 % 64),.int .u8 (128+n / 64 % 64),.int .u8 (128+n % 64)] 5)):=fun u=>
  conv_new [240+n / 262144,128+n / 4096 % 64,128+n / 64 % 64,128+n % 64] (by intro z hz;simp only[List.mem_cons,List.not_mem_nil,or_false] at hz;omega) 4 rfl _ rfl _ u rfl
 rw[← HEN.out] at cv
 go_enter Tryz.func192,Tryz.ntmps192
 go_wp2_with fail
 go_ret
 exact⟨rfl,(Below.refl _ _).alloc (Nat.le_refl _) _⟩
theorem utf_any (n:Int) (w:World) (h:Lib.validRune n=true):Calls Tryz.prog 192 #[.int .i64 n] w (OneB (Lib.encodeRune n) w):=by
 unfold Lib.validRune at h
 have:=of_decide_eq_true h
 by_cases h1:n≤127
 ·exact utf_one n w (by omega) h1
 by_cases h2:n≤2047
 ·exact utf_two n w (by omega) h2
 by_cases h3:n≤65535
 ·exact utf_three n w (by omega) h3 (by omega)
 ·exact utf_four n w (by omega) (by omega)
open Go.RowKit
open Go.RowKit
open Go.RowKit
theorem cat_eq {x y:List UInt8} (h:x.length+y.length≤9223372036854775807):Op.stringOp .add (B x) (B y)=pure (.string (B (x ++ y))):=by
 unfold Op.stringOp
 simp only[]
 rw[if_neg (by rw[bsize,bsize];show ¬ ((_:Nat):Int)>9223372036854775807;omega),b_append]
open Go.RowKit
def escT (v:Esc):List UInt8:=if v.2.2=0 then[] else escB v
def RefEsc (v:Esc) (w:World) (e:Ending) (w':World):Prop:=e=.returned (.tuple #[.int .i64 v.1,.string (B (escT v)),.int .i64 v.2.2])∧Below w.heap.size w w'
theorem RefEsc.mk {v:Esc} {w w':World} {e:Ending} {n:Int} {r:Bool} {k:Nat} {bs:List UInt8} (hv:v=(n,r,k)) (ht:escT (n,r,k)=bs) (he:e=.returned (.tuple #[.int .i64 n,.string (B bs),.int .i64 (k:Nat)])) (hb:Below w.heap.size w w'):RefEsc v w e w':=by
 subst hv ht
 exact⟨he,hb⟩
def saySigns:List UInt8:=[97,98,102,110,114,116,118,92]
def saySays:List Int:=[7,8,12,10,13,9,11,92]
theorem sign_hit (q:UInt8):∀ k,k<8→signE (saySigns.getD k 0) q=(saySays.getD k 0,false,2):=by
 intro k hk
 match k,hk with
 |0,_=>rfl
 |1,_=>rfl
 |2,_=>rfl
 |3,_=>rfl
 |4,_=>rfl
 |5,_=>rfl
 |6,_=>rfl
 |7,_=>unfold signE;rfl
theorem sign_plain (k:Nat) (hk:k<8):saySigns.getD k 0≠120∧saySigns.getD k 0≠117∧saySigns.getD k 0≠85∧¬ (saySigns.getD k 0=48∨saySigns.getD k 0=49∨saySigns.getD k 0=50∨saySigns.getD k 0=51∨saySigns.getD k 0=52∨saySigns.getD k 0=53∨saySigns.getD k 0=54∨saySigns.getD k 0=55):=by
 have all:∀ j:Fin 8,saySigns.getD j.val 0≠120∧saySigns.getD j.val 0≠117∧saySigns.getD j.val 0≠85∧¬ (saySigns.getD j.val 0=48∨saySigns.getD j.val 0=49∨saySigns.getD j.val 0=50∨saySigns.getD j.val 0=51∨saySigns.getD j.val 0=52∨saySigns.getD j.val 0=53∨saySigns.getD j.val 0=54∨saySigns.getD j.val 0=55):=by decide
 exact all ⟨k,hk⟩
theorem says_bounds (k:Nat) (hk:k<8):0≤saySays.getD k 0∧saySays.getD k 0≤255:=by
 have all:∀ j:Fin 8,0≤saySays.getD j.val 0∧saySays.getD j.val 0≤255:=by decide
 exact all ⟨k,hk⟩
theorem conv_byte (z:Int) (h0:0≤z) (h1:z≤255) (u:World):(convert 141 9 (.slice (some ⟨u.heap.size,0,none⟩) 1 1)).run Tryz.prog (u.alloc (.cells #[.int .u8 z] 5))=.ok (.string (B [z.toNat.toUInt8])) (u.alloc (.cells #[.int .u8 z] 5)):=
 conv_new [z] (by intro x hx;simp only[List.mem_cons,List.not_mem_nil,or_false] at hx;omega) 1 rfl _ rfl _ u rfl
theorem conv_byte_drew (z:Int) (h0:0≤z) (h1:z≤255) (u:World):(convert 141 9 (.slice (some ⟨u.heap.size,0,none⟩) 1 1)).run Tryz.prog (u.alloc (.cells #[.int .u8 z] 5)).drew=.ok (.string (B [z.toNat.toUInt8])) (u.alloc (.cells #[.int .u8 z] 5)).drew:=by
 refine run_convert_bytes_back _ _ _ _ ⟨u.heap.size,0,none⟩ 1 [z.toNat.toUInt8] Tryz.underlying141 Tryz.underlying5 Tryz.underlying9 (fun j hj=>?_)
 match j,hj with
 |0,_=>
  have:(z.toNat.toUInt8.toNat:Int)=z:=by
   rw[Nat.toUInt8,UInt8.toNat_ofNat',Nat.mod_eq_of_lt (by omega)]
   omega
  simp only[List.getElem_cons_zero,this]
  simp [Addr.add]
theorem escT_byte (n:Int) (k:Nat) (h:k≠0):escT (n,false,k)=[n.toNat.toUInt8]:=by
 unfold escT
 rw[if_neg h]
 rfl
theorem escT_none:escT (0,false,0)=[]:=rfl
theorem refEsc_end (s:ByteArray) (i:Nat) (q:UInt8) (w:World) (hs:s.size≤140737488355328) (hin:s.size≤i+1) (hi:i<s.size) :
  Calls Tryz.prog 185 #[.string s,.int .i64 i,.int .u8 (q.toNat:Int)] w (RefEsc (escV s.data.toList i q) w):=by
 have hd:decide ((s.size:Int)≤(i:Int)+1)=true:=decide_eq_true (by omega)
 have HE:=Lib.hid (escV_none (l:=s.data.toList) (i:=i) (q:=q) (by rw[sdata];exact hin))
 go_enter Tryz.func185,Tryz.ntmps185
 go_wp2_with fail
 go_ret3
 exact RefEsc.mk HE.out escT_none rfl (Below.refl _ _)
theorem refEsc_quote (s:ByteArray) (i:Nat) (q:UInt8) (w:World) (hs:s.size≤140737488355328) (hin:i+1<s.size) (hc:s[i+1]=q) (hq:q=34∨q=39) :
  Calls Tryz.prog 185 #[.string s,.int .i64 i,.int .u8 (q.toNat:Int)] w (RefEsc (escV s.data.toList i q) w):=by
 have hd:decide ((s.size:Int)≤(i:Int)+1)=false:=decide_eq_false (by omega)
 have HE:Hid (escV s.data.toList i q=((q.toNat:Int),false,2)):=Lib.hid (by
  rw[escV_some (c:=q) (by rw[List.getElem?_eq_getElem (by rw[sdata];exact hin),at_data hin,hc])]
  rcases hq with rfl|rfl
  ·rw[if_neg (by decide),if_neg (by decide),if_neg (by decide),if_neg (by decide)];decide
  ·rw[if_neg (by decide),if_neg (by decide),if_neg (by decide),if_neg (by decide)];decide)
 have hix:∀ u:World,(Instr.index 9 (.string s) (.int .i64 ((i:Int)+1))).run Tryz.prog u=.ok (.int .u8 (q.toNat:Int)) u:=fun u=>by
  rw[← hc];exact index_at s _ (i+1) (by omega) hin u
 have hc0:(0:Int)≤(q.toNat:Int):=by omega
 have hc1:(q.toNat:Int)≤255:=by have:=UInt8.toNat_lt q;omega
 have cv:=conv_byte (q.toNat:Int) hc0 hc1
 have cvd:=conv_byte_drew (q.toNat:Int) hc0 hc1
 have wq:IntKind.i64.wrap (q.toNat:Int)=(q.toNat:Int):=IntWalk.i64_in _ (by omega)
 clear hc hq
 go_enter Tryz.func185,Tryz.ntmps185
 go_wp2_with fail
 go_region
 all_goals(try go_wp2_with fail)
 all_goals go_ret3
 all_goals exact RefEsc.mk HE.out (by rw[escT_byte _ _ (by decide)];simp) rfl ((Below.refl _ _).alloc (Nat.le_refl _) _).drew
open Go.RowKit
theorem refEsc_sign (s:ByteArray) (i:Nat) (c q:UInt8) (w:World) (hs:s.size≤140737488355328) (hin:i+1<s.size) (hc:s[i+1]=c) (hcq:c≠q) (k0:Nat) (hk0:k0<8) (hck:saySigns.getD k0 0=c) :
  Calls Tryz.prog 185 #[.string s,.int .i64 i,.int .u8 (q.toNat:Int)] w (RefEsc (escV s.data.toList i q) w):=by
 have hd:decide ((s.size:Int)≤(i:Int)+1)=false:=decide_eq_false (by omega)
 have hix:∀ u:World,(Instr.index 9 (.string s) (.int .i64 ((i:Int)+1))).run Tryz.prog u=.ok (.int .u8 (c.toNat:Int)) u:=fun u=>by
  rw[← hc];exact index_at s _ (i+1) (by omega) hin u
 have hc0:(0:Int)≤(c.toNat:Int):=by omega
 have hc1:(c.toNat:Int)≤255:=by have:=UInt8.toNat_lt c;omega
 have zq:((c.toNat:Int) == (q.toNat:Int))=false:=byte_ne hcq
 have HE:Hid (∀ k,k<8→saySigns.getD k 0=c→escV s.data.toList i q=(saySays.getD k 0,false,2)):=Lib.hid (fun k hk e=>by
  obtain⟨n1,n2,n3,n4⟩:=sign_plain k hk
  rw[escV_some (c:=c) (by rw[List.getElem?_eq_getElem (by rw[sdata];exact hin),at_data hin,hc]),← e,if_neg n1,if_neg n2,if_neg n3,if_neg n4,sign_hit q k hk])
 have HK0:Hid (∀ k,(∀ j,j<k→saySigns.getD j 0≠c)→k≤k0):=Lib.hid (fun k h=>Nat.le_of_not_lt (fun g=>h k0 g hck))
 clear hc hcq hck
 go_enter Tryz.func185,Tryz.ntmps185
 go_wp2_with fail
 go_loop [12] (fun x=>∃ k:Nat,k≤8∧x=.int .i64 k∧∀ j,j<k→saySigns.getD j 0≠c) (fun x=>8 - (intOf x).toNat)
 case atStart=>exact⟨0,by omega,rfl,fun j hj=>by omega⟩
 case round=>
  obtain⟨k,hk,rfl,hbef⟩:=hrel
  have HBF:=Lib.hid hbef
  clear hbef
  have hkk:=HK0.out k HBF.out
  have hlt:k<8:=by omega
  obtain⟨y,hy⟩:∃ y,saySigns.getD k 0=y:=⟨_,rfl⟩
  have hik:∀ u:World,(Instr.index 9 (.string { data:=#[97,98,102,110,114,116,118,92] }) (.int .i64 (k:Int))).run Tryz.prog u=.ok (.int .u8 (y.toNat:Int)) u:=fun u=>by
   rw[← hy]
   have:=index_at (B saySigns) (k:Int) k rfl (by rw[bsize];exact hlt) u
   have e:(B saySigns)[k]'(by rw[bsize];exact hlt)=saySigns.getD k 0:=by
    have e1:=at_data (s:=B saySigns) (i:=k) (by rw[bsize];exact hlt)
    rw[← e1]
    simp [bdata,List.getD,show k<saySigns.length from hlt]
   rw[e] at this
   exact this
  by_cases hyc:c=y
  ·have zy:((c.toNat:Int) == (y.toNat:Int))=true:=byte_eq hyc
   have HV:=Lib.hid (HE.out k hlt (by rw[hy,hyc]))
   obtain⟨b0,b1⟩:=says_bounds k hlt
   have hcell:∀ u:World,(u.alloc (.cells #[.int .i64 7,.int .i64 8,.int .i64 12,.int .i64 10,.int .i64 13,.int .i64 9,.int .i64 11,.int .i64 92] 3)).cell? ⟨u.heap.size,k,none⟩=some (.int .i64 (saySays.getD k 0)):=fun u=>by
    rw[cell_of_row _ _ k _ _ (0,0) (heap_alloc_last u _)]
    match k,hlt with
    |0,_=>rfl
    |1,_=>rfl
    |2,_=>rfl
    |3,_=>rfl
    |4,_=>rfl
    |5,_=>rfl
    |6,_=>rfl
    |7,_=>rfl
   have hget:∀ h,([.int .i64 7,.int .i64 8,.int .i64 12,.int .i64 10,.int .i64 13,.int .i64 9,.int .i64 11,.int .i64 92]:List Value)[k]'h=.int .i64 (saySays.getD k 0):=fun h=>by
    match k,hlt with
    |0,_=>rfl
    |1,_=>rfl
    |2,_=>rfl
    |3,_=>rfl
    |4,_=>rfl
    |5,_=>rfl
    |6,_=>rfl
    |7,_=>rfl
   obtain⟨x,hx⟩:∃ x,saySays.getD k 0=x:=⟨_,rfl⟩
   rw[hx] at HV b0 b1 hcell hget
   have cv:=conv_byte x b0 b1
   have cvd:=conv_byte_drew x b0 b1
   have wq:x % 256=x:=by omega
   clear hy hyc hx
   have cvd2:=conv_byte_drew x b0 b1 (w.alloc (.cells #[.int .i64 7,.int .i64 8,.int .i64 12,.int .i64 10,.int .i64 13,.int .i64 9,.int .i64 11,.int .i64 92] 3))
   have cv2:=conv_byte x b0 b1 (w.alloc (.cells #[.int .i64 7,.int .i64 8,.int .i64 12,.int .i64 10,.int .i64 13,.int .i64 9,.int .i64 11,.int .i64 92] 3))
   rw[World.size_alloc] at cvd2 cv2
   go_wp2_with fail
   go_region
   all_goals(try go_wp2_with fail)
   all_goals(try simp only[hget])
   all_goals go_ret3
   all_goals exact RefEsc.mk HV.out (escT_byte _ _ (by decide)) rfl (((Below.refl _ _).alloc (Nat.le_refl _) _).alloc (by rw[World.size_alloc];exact Nat.le_succ _) _).drew
  ·have zy:((c.toNat:Int) == (y.toNat:Int))=false:=byte_ne hyc
   have HN:Hid (∀ j,j<k+1→saySigns.getD j 0≠c):=Lib.hid (fun j hj=>by
    by_cases e:j=k
    ·subst e;rw[hy];exact fun g=>hyc g.symm
    ·exact HBF.out j (by omega))
   clear hyc
   go_wp2_with fail
   go_round
   case rel=>exact⟨k+1,by omega,by go_num,HN.out⟩
   case measure=>simp [intOf];omega
open Go.RowKit
theorem refNumber_8z (s:ByteArray) (z m:Int) (i count:Nat) (w:World) (hz:z=(i:Int)) (hm:m=(count:Int)) (hs:s.size≤140737488355328) (hi:i≤140737488355338) (hc:count≤8) :
  Calls Tryz.prog 191 #[.string s,.int .i64 z,.int .i64 m,.int .i64 8] w (NumMPost (numAt s.data.toList i count 8) w):=by
 subst hz hm
 exact refNumber_8 s i count w hs hi hc
theorem refNumber_16z (s:ByteArray) (z m:Int) (i count:Nat) (w:World) (hz:z=(i:Int)) (hm:m=(count:Int)) (hs:s.size≤140737488355328) (hi:i≤140737488355338) (hc:count≤8) :
  Calls Tryz.prog 191 #[.string s,.int .i64 z,.int .i64 m,.int .i64 16] w (NumMPost (numAt s.data.toList i count 16) w):=by
 subst hz hm
 exact refNumber_16 s i count w hs hi hc
theorem escT_rune (n:Int) (k:Nat) (h:k≠0):escT (n,true,k)=Lib.encodeRune n:=by
 unfold escT
 rw[if_neg h]
 rfl
theorem refEsc_x_none (s:ByteArray) (i:Nat) (c q:UInt8) (w:World) (hs:s.size≤140737488355328) (hin:i+1<s.size) (hc:s[i+1]=c) (hcq:c≠q) (e120:c=120) (hev:escV s.data.toList i q=byteE s.data.toList i 2 2 16) (ho:numAt s.data.toList (i+2) 2 16=none) (hns:∀ k,k<8→saySigns.getD k 0≠c) :
  Calls Tryz.prog 185 #[.string s,.int .i64 i,.int .u8 (q.toNat:Int)] w (RefEsc (escV s.data.toList i q) w):=by
 have HE:Hid (escV s.data.toList i q=(0,false,0)):=Lib.hid (by rw[hev,byteE,ho])
 have HO:=Lib.hid ho
 clear ho hev
 have hd:decide ((s.size:Int)≤(i:Int)+1)=false:=decide_eq_false (by omega)
 have hix:∀ u:World,(Instr.index 9 (.string s) (.int .i64 ((i:Int)+1))).run Tryz.prog u=.ok (.int .u8 (c.toNat:Int)) u:=fun u=>by
  rw[← hc];exact index_at s _ (i+1) (by omega) hin u
 have hc0:(0:Int)≤(c.toNat:Int):=by omega
 have hc1:(c.toNat:Int)≤255:=by have:=UInt8.toNat_lt c;omega
 have zq:((c.toNat:Int) == (q.toNat:Int))=false:=byte_ne hcq
 have z120:((c.toNat:Int) == 120)=true:=byte_eq (d:=120) e120
 have HNS:=Lib.hid hns
 clear hc hcq hns
 go_enter Tryz.func185,Tryz.ntmps185
 go_wp2_with fail
 go_loop [12] (fun x=>∃ k:Nat,k≤8∧x=.int .i64 k∧∀ j,j<k→saySigns.getD j 0≠c) (fun x=>8 - (intOf x).toNat)
 case atStart=>exact⟨0,by omega,rfl,fun j hj=>by omega⟩
 case round=>
  obtain⟨k,hk,rfl,hbef⟩:=hrel
  have HBF:=Lib.hid hbef
  clear hbef
  by_cases hlt:k<8
  ·obtain⟨y,hy⟩:∃ y,saySigns.getD k 0=y:=⟨_,rfl⟩
   have hik:∀ u:World,(Instr.index 9 (.string { data:=#[97,98,102,110,114,116,118,92] }) (.int .i64 (k:Int))).run Tryz.prog u=.ok (.int .u8 (y.toNat:Int)) u:=fun u=>by
    rw[← hy]
    have:=index_at (B saySigns) (k:Int) k rfl (by rw[bsize];exact hlt) u
    have e:(B saySigns)[k]'(by rw[bsize];exact hlt)=saySigns.getD k 0:=by
     have e1:=at_data (s:=B saySigns) (i:=k) (by rw[bsize];exact hlt)
     rw[← e1]
     simp [bdata,List.getD,show k<saySigns.length from hlt]
    rw[e] at this
    exact this
   have hyc:c≠y:=fun g=>HNS.out k hlt (by rw[hy];exact g.symm)
   have zy:((c.toNat:Int) == (y.toNat:Int))=false:=byte_ne hyc
   have HN:Hid (∀ j,j<k+1→saySigns.getD j 0≠c):=Lib.hid (fun j hj=>HNS.out j (by omega))
   clear hyc
   go_wp2_with fail
   go_round
   case rel=>exact⟨k+1,by omega,by go_num,HN.out⟩
   case measure=>simp [intOf];omega
  ·obtain rfl:k=8:=by omega
   go_wp2_with (go_at_call 191;refine(refNumber_16z s _ _ (i+2) 2 _ (by omega) rfl hs (by omega) (by omega)).mono ?_;rintro e w' ⟨rfl,rfl⟩;rw[HO.out];simp only[numM])
   go_ret3
   exact RefEsc.mk HE.out escT_none rfl ((Below.refl _ _).alloc (Nat.le_refl _) _)
theorem refEsc_x_good (s:ByteArray) (i:Nat) (c q:UInt8) (w:World) (hs:s.size≤140737488355328) (hin:i+1<s.size) (hc:s[i+1]=c) (hcq:c≠q) (e120:c=120) (hev:escV s.data.toList i q=byteE s.data.toList i 2 2 16) (n:Int) (ho:numAt s.data.toList (i+2) 2 16=some n) (hn:n≤255) (hns:∀ k,k<8→saySigns.getD k 0≠c) :
  Calls Tryz.prog 185 #[.string s,.int .i64 i,.int .u8 (q.toNat:Int)] w (RefEsc (escV s.data.toList i q) w):=by
 have HE:Hid (escV s.data.toList i q=(n,false,4)):=Lib.hid (by rw[hev,byteE,ho];exact if_neg (by omega))
 obtain⟨_,hn0,hn1⟩:=numAt_bound (by omega) (by omega) ho
 have hp:=pow_le8 2 (by omega)
 have hn2:n≤4294967296:=by omega
 clear hp hn1
 have d0:decide (n<0)=false:=decide_eq_false (by omega)
 have d1:decide (255<n)=false:=decide_eq_false (by omega)
 have d2:decide (1114111<n)=false:=decide_eq_false (by omega)
 have wq:n % 256=n:=by omega
 have cv:=conv_byte n hn0 hn
 have cvd:=conv_byte_drew n hn0 hn
 have cv2:=conv_byte n hn0 hn (w.alloc (.cells #[.int .i64 7,.int .i64 8,.int .i64 12,.int .i64 10,.int .i64 13,.int .i64 9,.int .i64 11,.int .i64 92] 3))
 have cvd2:=conv_byte_drew n hn0 hn (w.alloc (.cells #[.int .i64 7,.int .i64 8,.int .i64 12,.int .i64 10,.int .i64 13,.int .i64 9,.int .i64 11,.int .i64 92] 3))
 rw[World.size_alloc] at cvd2 cv2
 have HO:=Lib.hid ho
 clear ho hev
 have hd:decide ((s.size:Int)≤(i:Int)+1)=false:=decide_eq_false (by omega)
 have hix:∀ u:World,(Instr.index 9 (.string s) (.int .i64 ((i:Int)+1))).run Tryz.prog u=.ok (.int .u8 (c.toNat:Int)) u:=fun u=>by
  rw[← hc];exact index_at s _ (i+1) (by omega) hin u
 have hc0:(0:Int)≤(c.toNat:Int):=by omega
 have hc1:(c.toNat:Int)≤255:=by have:=UInt8.toNat_lt c;omega
 have zq:((c.toNat:Int) == (q.toNat:Int))=false:=byte_ne hcq
 have z120:((c.toNat:Int) == 120)=true:=byte_eq (d:=120) e120
 have HNS:=Lib.hid hns
 clear hc hcq hns
 go_enter Tryz.func185,Tryz.ntmps185
 go_wp2_with fail
 go_loop [12] (fun x=>∃ k:Nat,k≤8∧x=.int .i64 k∧∀ j,j<k→saySigns.getD j 0≠c) (fun x=>8 - (intOf x).toNat)
 case atStart=>exact⟨0,by omega,rfl,fun j hj=>by omega⟩
 case round=>
  obtain⟨k,hk,rfl,hbef⟩:=hrel
  have HBF:=Lib.hid hbef
  clear hbef
  by_cases hlt:k<8
  ·obtain⟨y,hy⟩:∃ y,saySigns.getD k 0=y:=⟨_,rfl⟩
   have hik:∀ u:World,(Instr.index 9 (.string { data:=#[97,98,102,110,114,116,118,92] }) (.int .i64 (k:Int))).run Tryz.prog u=.ok (.int .u8 (y.toNat:Int)) u:=fun u=>by
    rw[← hy]
    have:=index_at (B saySigns) (k:Int) k rfl (by rw[bsize];exact hlt) u
    have e:(B saySigns)[k]'(by rw[bsize];exact hlt)=saySigns.getD k 0:=by
     have e1:=at_data (s:=B saySigns) (i:=k) (by rw[bsize];exact hlt)
     rw[← e1]
     simp [bdata,List.getD,show k<saySigns.length from hlt]
    rw[e] at this
    exact this
   have hyc:c≠y:=fun g=>HNS.out k hlt (by rw[hy];exact g.symm)
   have zy:((c.toNat:Int) == (y.toNat:Int))=false:=byte_ne hyc
   have HN:Hid (∀ j,j<k+1→saySigns.getD j 0≠c):=Lib.hid (fun j hj=>HNS.out j (by omega))
   clear hyc
   go_wp2_with fail
   go_round
   case rel=>exact⟨k+1,by omega,by go_num,HN.out⟩
   case measure=>simp [intOf];omega
  ·obtain rfl:k=8:=by omega
   go_wp2_with (go_at_call 191;refine(refNumber_16z s _ _ (i+2) 2 _ (by omega) rfl hs (by omega) (by omega)).mono ?_;rintro e w' ⟨rfl,rfl⟩;rw[HO.out];simp only[numM])
   all_goals(try go_region)
   all_goals(try go_wp2_with fail)
   all_goals(try go_ret3)
   all_goals exact RefEsc.mk HE.out (escT_byte _ _ (by decide)) rfl (((Below.refl _ _).alloc (Nat.le_refl _) _).alloc (by rw[World.size_alloc];exact Nat.le_succ _) _).drew
theorem refEsc_d_none (s:ByteArray) (i:Nat) (c q:UInt8) (w:World) (hs:s.size≤140737488355328) (hin:i+1<s.size) (hc:s[i+1]=c) (hcq:c≠q) (n120:c≠120) (n117:c≠117) (n85:c≠85) (hev:escV s.data.toList i q=byteE s.data.toList i 1 3 8) (ho:numAt s.data.toList (i+1) 3 8=none) (hns:∀ k,k<8→saySigns.getD k 0≠c) :
  Calls Tryz.prog 185 #[.string s,.int .i64 i,.int .u8 (q.toNat:Int)] w (RefEsc (escV s.data.toList i q) w):=by
 have HE:Hid (escV s.data.toList i q=(0,false,0)):=Lib.hid (by rw[hev,byteE,ho])
 have HO:=Lib.hid ho
 clear ho hev
 have hd:decide ((s.size:Int)≤(i:Int)+1)=false:=decide_eq_false (by omega)
 have hix:∀ u:World,(Instr.index 9 (.string s) (.int .i64 ((i:Int)+1))).run Tryz.prog u=.ok (.int .u8 (c.toNat:Int)) u:=fun u=>by
  rw[← hc];exact index_at s _ (i+1) (by omega) hin u
 have hc0:(0:Int)≤(c.toNat:Int):=by omega
 have hc1:(c.toNat:Int)≤255:=by have:=UInt8.toNat_lt c;omega
 have zq:((c.toNat:Int) == (q.toNat:Int))=false:=byte_ne hcq
 have z120:((c.toNat:Int) == 120)=false:=byte_ne (d:=120) n120
 have z117:((c.toNat:Int) == 117)=false:=byte_ne (d:=117) n117
 have z85:((c.toNat:Int) == 85)=false:=byte_ne (d:=85) n85
 have HNS:=Lib.hid hns
 clear hc hcq hns
 go_enter Tryz.func185,Tryz.ntmps185
 go_wp2_with fail
 go_loop [12] (fun x=>∃ k:Nat,k≤8∧x=.int .i64 k∧∀ j,j<k→saySigns.getD j 0≠c) (fun x=>8 - (intOf x).toNat)
 case atStart=>exact⟨0,by omega,rfl,fun j hj=>by omega⟩
 case round=>
  obtain⟨k,hk,rfl,hbef⟩:=hrel
  have HBF:=Lib.hid hbef
  clear hbef
  by_cases hlt:k<8
  ·obtain⟨y,hy⟩:∃ y,saySigns.getD k 0=y:=⟨_,rfl⟩
   have hik:∀ u:World,(Instr.index 9 (.string { data:=#[97,98,102,110,114,116,118,92] }) (.int .i64 (k:Int))).run Tryz.prog u=.ok (.int .u8 (y.toNat:Int)) u:=fun u=>by
    rw[← hy]
    have:=index_at (B saySigns) (k:Int) k rfl (by rw[bsize];exact hlt) u
    have e:(B saySigns)[k]'(by rw[bsize];exact hlt)=saySigns.getD k 0:=by
     have e1:=at_data (s:=B saySigns) (i:=k) (by rw[bsize];exact hlt)
     rw[← e1]
     simp [bdata,List.getD,show k<saySigns.length from hlt]
    rw[e] at this
    exact this
   have hyc:c≠y:=fun g=>HNS.out k hlt (by rw[hy];exact g.symm)
   have zy:((c.toNat:Int) == (y.toNat:Int))=false:=byte_ne hyc
   have HN:Hid (∀ j,j<k+1→saySigns.getD j 0≠c):=Lib.hid (fun j hj=>HNS.out j (by omega))
   clear hyc
   go_wp2_with fail
   go_round
   case rel=>exact⟨k+1,by omega,by go_num,HN.out⟩
   case measure=>simp [intOf];omega
  ·obtain rfl:k=8:=by omega
   go_wp2_with (go_at_call 191;refine(refNumber_8z s _ _ (i+1) 3 _ (by omega) rfl hs (by omega) (by omega)).mono ?_;rintro e w' ⟨rfl,rfl⟩;rw[HO.out];simp only[numM])
   go_ret3
   exact RefEsc.mk HE.out escT_none rfl ((Below.refl _ _).alloc (Nat.le_refl _) _)
open Go.RowKit
theorem refEsc_u_none (s:ByteArray) (i:Nat) (c q:UInt8) (w:World) (hs:s.size≤140737488355328) (hin:i+1<s.size) (hc:s[i+1]=c) (hcq:c≠q) (n120:c≠120) (e117:c=117) (hev:escV s.data.toList i q=runeE s.data.toList i 4) (ho:numAt s.data.toList (i+2) 4 16=none) (hns:∀ k,k<8→saySigns.getD k 0≠c) :
  Calls Tryz.prog 185 #[.string s,.int .i64 i,.int .u8 (q.toNat:Int)] w (RefEsc (escV s.data.toList i q) w):=by
 have HE:Hid (escV s.data.toList i q=(0,false,0)):=Lib.hid (by rw[hev,runeE,ho])
 have HO:=Lib.hid ho
 clear ho hev
 have hd:decide ((s.size:Int)≤(i:Int)+1)=false:=decide_eq_false (by omega)
 have hix:∀ u:World,(Instr.index 9 (.string s) (.int .i64 ((i:Int)+1))).run Tryz.prog u=.ok (.int .u8 (c.toNat:Int)) u:=fun u=>by
  rw[← hc];exact index_at s _ (i+1) (by omega) hin u
 have hc0:(0:Int)≤(c.toNat:Int):=by omega
 have hc1:(c.toNat:Int)≤255:=by have:=UInt8.toNat_lt c;omega
 have zq:((c.toNat:Int) == (q.toNat:Int))=false:=byte_ne hcq
 have z120:((c.toNat:Int) == 120)=false:=byte_ne (d:=120) n120
 have z117:((c.toNat:Int) == 117)=true:=byte_eq (d:=117) e117
 have HNS:=Lib.hid hns
 clear hc hcq hns
 go_enter Tryz.func185,Tryz.ntmps185
 go_wp2_with fail
 go_loop [12] (fun x=>∃ k:Nat,k≤8∧x=.int .i64 k∧∀ j,j<k→saySigns.getD j 0≠c) (fun x=>8 - (intOf x).toNat)
 case atStart=>exact⟨0,by omega,rfl,fun j hj=>by omega⟩
 case round=>
  obtain⟨k,hk,rfl,hbef⟩:=hrel
  have HBF:=Lib.hid hbef
  clear hbef
  by_cases hlt:k<8
  ·obtain⟨y,hy⟩:∃ y,saySigns.getD k 0=y:=⟨_,rfl⟩
   have hik:∀ u:World,(Instr.index 9 (.string { data:=#[97,98,102,110,114,116,118,92] }) (.int .i64 (k:Int))).run Tryz.prog u=.ok (.int .u8 (y.toNat:Int)) u:=fun u=>by
    rw[← hy]
    have:=index_at (B saySigns) (k:Int) k rfl (by rw[bsize];exact hlt) u
    have e:(B saySigns)[k]'(by rw[bsize];exact hlt)=saySigns.getD k 0:=by
     have e1:=at_data (s:=B saySigns) (i:=k) (by rw[bsize];exact hlt)
     rw[← e1]
     simp [bdata,List.getD,show k<saySigns.length from hlt]
    rw[e] at this
    exact this
   have hyc:c≠y:=fun g=>HNS.out k hlt (by rw[hy];exact g.symm)
   have zy:((c.toNat:Int) == (y.toNat:Int))=false:=byte_ne hyc
   have HN:Hid (∀ j,j<k+1→saySigns.getD j 0≠c):=Lib.hid (fun j hj=>HNS.out j (by omega))
   clear hyc
   go_wp2_with fail
   go_round
   case rel=>exact⟨k+1,by omega,by go_num,HN.out⟩
   case measure=>simp [intOf];omega
  ·obtain rfl:k=8:=by omega
   go_wp2_with (go_at_call 191;refine(refNumber_16z s _ _ (i+2) 4 _ (by omega) rfl hs (by omega) (by omega)).mono ?_;rintro e w' ⟨rfl,rfl⟩;rw[HO.out];simp only[numM])
   go_ret3
   exact RefEsc.mk HE.out escT_none rfl ((Below.refl _ _).alloc (Nat.le_refl _) _)
theorem refEsc_u_bad (s:ByteArray) (i:Nat) (c q:UInt8) (w:World) (hs:s.size≤140737488355328) (hin:i+1<s.size) (hc:s[i+1]=c) (hcq:c≠q) (n120:c≠120) (e117:c=117) (hev:escV s.data.toList i q=runeE s.data.toList i 4) (n:Int) (ho:numAt s.data.toList (i+2) 4 16=some n) (hn:n≤1114111) (hbad:55296≤n∧n≤57343) (hns:∀ k,k<8→saySigns.getD k 0≠c) :
  Calls Tryz.prog 185 #[.string s,.int .i64 i,.int .u8 (q.toNat:Int)] w (RefEsc (escV s.data.toList i q) w):=by
 have hv:Lib.validRune n=false:=by unfold Lib.validRune;exact decide_eq_false (by omega)
 have HE:Hid (escV s.data.toList i q=(0,false,0)):=Lib.hid (by rw[hev,runeE,ho];show(if 1114111<n then _ else if Lib.validRune n=true then _ else _)=_;rw[if_neg (by omega),if_neg (by rw[hv];decide)])
 clear hv
 obtain⟨_,hn0,hn1⟩:=numAt_bound (by omega) (by omega) ho
 have hp:=pow_le8 4 (by omega)
 have hn2:n≤4294967296:=by omega
 clear hp hn1
 have d0:decide (n<0)=false:=decide_eq_false (by omega)
 have d2:decide (1114111<n)=false:=decide_eq_false (by omega)
 have d3:decide (55296≤n)=true:=decide_eq_true (by omega)
 have d4:decide (n≤57343)=true:=decide_eq_true (by omega)
 have HO:=Lib.hid ho
 clear ho hev
 have hd:decide ((s.size:Int)≤(i:Int)+1)=false:=decide_eq_false (by omega)
 have hix:∀ u:World,(Instr.index 9 (.string s) (.int .i64 ((i:Int)+1))).run Tryz.prog u=.ok (.int .u8 (c.toNat:Int)) u:=fun u=>by
  rw[← hc];exact index_at s _ (i+1) (by omega) hin u
 have hc0:(0:Int)≤(c.toNat:Int):=by omega
 have hc1:(c.toNat:Int)≤255:=by have:=UInt8.toNat_lt c;omega
 have zq:((c.toNat:Int) == (q.toNat:Int))=false:=byte_ne hcq
 have z120:((c.toNat:Int) == 120)=false:=byte_ne (d:=120) n120
 have z117:((c.toNat:Int) == 117)=true:=byte_eq (d:=117) e117
 have HNS:=Lib.hid hns
 clear hc hcq hns
 go_enter Tryz.func185,Tryz.ntmps185
 go_wp2_with fail
 go_loop [12] (fun x=>∃ k:Nat,k≤8∧x=.int .i64 k∧∀ j,j<k→saySigns.getD j 0≠c) (fun x=>8 - (intOf x).toNat)
 case atStart=>exact⟨0,by omega,rfl,fun j hj=>by omega⟩
 case round=>
  obtain⟨k,hk,rfl,hbef⟩:=hrel
  have HBF:=Lib.hid hbef
  clear hbef
  by_cases hlt:k<8
  ·obtain⟨y,hy⟩:∃ y,saySigns.getD k 0=y:=⟨_,rfl⟩
   have hik:∀ u:World,(Instr.index 9 (.string { data:=#[97,98,102,110,114,116,118,92] }) (.int .i64 (k:Int))).run Tryz.prog u=.ok (.int .u8 (y.toNat:Int)) u:=fun u=>by
    rw[← hy]
    have:=index_at (B saySigns) (k:Int) k rfl (by rw[bsize];exact hlt) u
    have e:(B saySigns)[k]'(by rw[bsize];exact hlt)=saySigns.getD k 0:=by
     have e1:=at_data (s:=B saySigns) (i:=k) (by rw[bsize];exact hlt)
     rw[← e1]
     simp [bdata,List.getD,show k<saySigns.length from hlt]
    rw[e] at this
    exact this
   have hyc:c≠y:=fun g=>HNS.out k hlt (by rw[hy];exact g.symm)
   have zy:((c.toNat:Int) == (y.toNat:Int))=false:=byte_ne hyc
   have HN:Hid (∀ j,j<k+1→saySigns.getD j 0≠c):=Lib.hid (fun j hj=>HNS.out j (by omega))
   clear hyc
   go_wp2_with fail
   go_round
   case rel=>exact⟨k+1,by omega,by go_num,HN.out⟩
   case measure=>simp [intOf];omega
  ·obtain rfl:k=8:=by omega
   go_wp2_with (go_at_call 191;refine(refNumber_16z s _ _ (i+2) 4 _ (by omega) rfl hs (by omega) (by omega)).mono ?_;rintro e w' ⟨rfl,rfl⟩;rw[HO.out];simp only[numM])
   go_ret3
   exact RefEsc.mk HE.out escT_none rfl ((Below.refl _ _).alloc (Nat.le_refl _) _)
theorem refEsc_u_lo (s:ByteArray) (i:Nat) (c q:UInt8) (w:World) (hs:s.size≤140737488355328) (hin:i+1<s.size) (hc:s[i+1]=c) (hcq:c≠q) (n120:c≠120) (e117:c=117) (hev:escV s.data.toList i q=runeE s.data.toList i 4) (n:Int) (ho:numAt s.data.toList (i+2) 4 16=some n) (hgood:n<55296) (hns:∀ k,k<8→saySigns.getD k 0≠c) :
  Calls Tryz.prog 185 #[.string s,.int .i64 i,.int .u8 (q.toNat:Int)] w (RefEsc (escV s.data.toList i q) w):=by
 have hb:=numAt_bound (by omega) (by omega) ho
 have hv:Lib.validRune n=true:=by unfold Lib.validRune;exact decide_eq_true (by omega)
 have HE:Hid (escV s.data.toList i q=(n,true,6)):=Lib.hid (by rw[hev,runeE,ho];show(if 1114111<n then _ else if Lib.validRune n=true then _ else _)=_;rw[if_neg (by omega),if_pos hv])
 have HV:=Lib.hid hv
 clear hv hb
 obtain⟨_,hn0,hn1⟩:=numAt_bound (by omega) (by omega) ho
 have hp:=pow_le8 4 (by omega)
 have hn2:n≤4294967296:=by omega
 clear hp hn1
 have d0:decide (n<0)=false:=decide_eq_false (by omega)
 have d2:decide (1114111<n)=false:=decide_eq_false (by omega)
 have d3:decide (55296≤n)=false:=decide_eq_false (by omega)
 have HO:=Lib.hid ho
 clear ho hev
 have hd:decide ((s.size:Int)≤(i:Int)+1)=false:=decide_eq_false (by omega)
 have hix:∀ u:World,(Instr.index 9 (.string s) (.int .i64 ((i:Int)+1))).run Tryz.prog u=.ok (.int .u8 (c.toNat:Int)) u:=fun u=>by
  rw[← hc];exact index_at s _ (i+1) (by omega) hin u
 have hc0:(0:Int)≤(c.toNat:Int):=by omega
 have hc1:(c.toNat:Int)≤255:=by have:=UInt8.toNat_lt c;omega
 have zq:((c.toNat:Int) == (q.toNat:Int))=false:=byte_ne hcq
 have z120:((c.toNat:Int) == 120)=false:=byte_ne (d:=120) n120
 have z117:((c.toNat:Int) == 117)=true:=byte_eq (d:=117) e117
 have HNS:=Lib.hid hns
 clear hc hcq hns
 go_enter Tryz.func185,Tryz.ntmps185
 go_wp2_with fail
 go_loop [12] (fun x=>∃ k:Nat,k≤8∧x=.int .i64 k∧∀ j,j<k→saySigns.getD j 0≠c) (fun x=>8 - (intOf x).toNat)
 case atStart=>exact⟨0,by omega,rfl,fun j hj=>by omega⟩
 case round=>
  obtain⟨k,hk,rfl,hbef⟩:=hrel
  have HBF:=Lib.hid hbef
  clear hbef
  by_cases hlt:k<8
  ·obtain⟨y,hy⟩:∃ y,saySigns.getD k 0=y:=⟨_,rfl⟩
   have hik:∀ u:World,(Instr.index 9 (.string { data:=#[97,98,102,110,114,116,118,92] }) (.int .i64 (k:Int))).run Tryz.prog u=.ok (.int .u8 (y.toNat:Int)) u:=fun u=>by
    rw[← hy]
    have:=index_at (B saySigns) (k:Int) k rfl (by rw[bsize];exact hlt) u
    have e:(B saySigns)[k]'(by rw[bsize];exact hlt)=saySigns.getD k 0:=by
     have e1:=at_data (s:=B saySigns) (i:=k) (by rw[bsize];exact hlt)
     rw[← e1]
     simp [bdata,List.getD,show k<saySigns.length from hlt]
    rw[e] at this
    exact this
   have hyc:c≠y:=fun g=>HNS.out k hlt (by rw[hy];exact g.symm)
   have zy:((c.toNat:Int) == (y.toNat:Int))=false:=byte_ne hyc
   have HN:Hid (∀ j,j<k+1→saySigns.getD j 0≠c):=Lib.hid (fun j hj=>HNS.out j (by omega))
   clear hyc
   go_wp2_with fail
   go_round
   case rel=>exact⟨k+1,by omega,by go_num,HN.out⟩
   case measure=>simp [intOf];omega
  ·obtain rfl:k=8:=by omega
   go_wp2_with (first|(go_at_call 191;refine(refNumber_16z s _ _ (i+2) 4 _ (by omega) rfl hs (by omega) (by omega)).mono ?_;rintro e w' ⟨rfl,rfl⟩;rw[HO.out];simp only[numM])|(go_at_call 192;refine(utf_any n _ HV.out).mono ?_;rintro e w' ⟨rfl,hb⟩))
   go_ret3
   exact RefEsc.mk HE.out (escT_rune _ _ (by decide)) rfl (((Below.refl _ _).alloc (Nat.le_refl _) _).trans (hb.mono (by rw[World.size_alloc];exact Nat.le_succ _)))
theorem refEsc_u_hi (s:ByteArray) (i:Nat) (c q:UInt8) (w:World) (hs:s.size≤140737488355328) (hin:i+1<s.size) (hc:s[i+1]=c) (hcq:c≠q) (n120:c≠120) (e117:c=117) (hev:escV s.data.toList i q=runeE s.data.toList i 4) (n:Int) (ho:numAt s.data.toList (i+2) 4 16=some n) (hn:n≤1114111) (hgood:57343<n) (hns:∀ k,k<8→saySigns.getD k 0≠c) :
  Calls Tryz.prog 185 #[.string s,.int .i64 i,.int .u8 (q.toNat:Int)] w (RefEsc (escV s.data.toList i q) w):=by
 have hb:=numAt_bound (by omega) (by omega) ho
 have hv:Lib.validRune n=true:=by unfold Lib.validRune;exact decide_eq_true (by omega)
 have HE:Hid (escV s.data.toList i q=(n,true,6)):=Lib.hid (by rw[hev,runeE,ho];show(if 1114111<n then _ else if Lib.validRune n=true then _ else _)=_;rw[if_neg (by omega),if_pos hv])
 have HV:=Lib.hid hv
 clear hv hb
 obtain⟨_,hn0,hn1⟩:=numAt_bound (by omega) (by omega) ho
 have hp:=pow_le8 4 (by omega)
 have hn2:n≤4294967296:=by omega
 clear hp hn1
 have d0:decide (n<0)=false:=decide_eq_false (by omega)
 have d2:decide (1114111<n)=false:=decide_eq_false (by omega)
 have d3:decide (55296≤n)=true:=decide_eq_true (by omega)
 have d4:decide (n≤57343)=false:=decide_eq_false (by omega)
 have HO:=Lib.hid ho
 clear ho hev
 have hd:decide ((s.size:Int)≤(i:Int)+1)=false:=decide_eq_false (by omega)
 have hix:∀ u:World,(Instr.index 9 (.string s) (.int .i64 ((i:Int)+1))).run Tryz.prog u=.ok (.int .u8 (c.toNat:Int)) u:=fun u=>by
  rw[← hc];exact index_at s _ (i+1) (by omega) hin u
 have hc0:(0:Int)≤(c.toNat:Int):=by omega
 have hc1:(c.toNat:Int)≤255:=by have:=UInt8.toNat_lt c;omega
 have zq:((c.toNat:Int) == (q.toNat:Int))=false:=byte_ne hcq
 have z120:((c.toNat:Int) == 120)=false:=byte_ne (d:=120) n120
 have z117:((c.toNat:Int) == 117)=true:=byte_eq (d:=117) e117
 have HNS:=Lib.hid hns
 clear hc hcq hns
 go_enter Tryz.func185,Tryz.ntmps185
 go_wp2_with fail
 go_loop [12] (fun x=>∃ k:Nat,k≤8∧x=.int .i64 k∧∀ j,j<k→saySigns.getD j 0≠c) (fun x=>8 - (intOf x).toNat)
 case atStart=>exact⟨0,by omega,rfl,fun j hj=>by omega⟩
 case round=>
  obtain⟨k,hk,rfl,hbef⟩:=hrel
  have HBF:=Lib.hid hbef
  clear hbef
  by_cases hlt:k<8
  ·obtain⟨y,hy⟩:∃ y,saySigns.getD k 0=y:=⟨_,rfl⟩
   have hik:∀ u:World,(Instr.index 9 (.string { data:=#[97,98,102,110,114,116,118,92] }) (.int .i64 (k:Int))).run Tryz.prog u=.ok (.int .u8 (y.toNat:Int)) u:=fun u=>by
    rw[← hy]
    have:=index_at (B saySigns) (k:Int) k rfl (by rw[bsize];exact hlt) u
    have e:(B saySigns)[k]'(by rw[bsize];exact hlt)=saySigns.getD k 0:=by
     have e1:=at_data (s:=B saySigns) (i:=k) (by rw[bsize];exact hlt)
     rw[← e1]
     simp [bdata,List.getD,show k<saySigns.length from hlt]
    rw[e] at this
    exact this
   have hyc:c≠y:=fun g=>HNS.out k hlt (by rw[hy];exact g.symm)
   have zy:((c.toNat:Int) == (y.toNat:Int))=false:=byte_ne hyc
   have HN:Hid (∀ j,j<k+1→saySigns.getD j 0≠c):=Lib.hid (fun j hj=>HNS.out j (by omega))
   clear hyc
   go_wp2_with fail
   go_round
   case rel=>exact⟨k+1,by omega,by go_num,HN.out⟩
   case measure=>simp [intOf];omega
  ·obtain rfl:k=8:=by omega
   go_wp2_with (first|(go_at_call 191;refine(refNumber_16z s _ _ (i+2) 4 _ (by omega) rfl hs (by omega) (by omega)).mono ?_;rintro e w' ⟨rfl,rfl⟩;rw[HO.out];simp only[numM])|(go_at_call 192;refine(utf_any n _ HV.out).mono ?_;rintro e w' ⟨rfl,hb⟩))
   go_ret3
   exact RefEsc.mk HE.out (escT_rune _ _ (by decide)) rfl (((Below.refl _ _).alloc (Nat.le_refl _) _).trans (hb.mono (by rw[World.size_alloc];exact Nat.le_succ _)))
end Go.Proofs.YtcekbbkidipbnaaGreat.tok
