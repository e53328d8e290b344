/-
  Texts put together: Decode, Small, Diags.
-/
import Derived.Lib.DecodeNEq
import Derived.Lib.TrimU
import Derived.WalkKit
import Derived.Test.YtcekbbkidipbnaaGreatRows
import Derived.Handy
import Derived.Deep.DeepFit
import Derived.Lib.RuneCountTail
import Derived.Shelf.Unicode.DecodeSlow
set_option maxRecDepth 100000
set_option maxHeartbeats 8000000
namespace Go.Proofs.YtcekbbkidipbnaaGreat.dec
open Go.RowKit Go.Lib
def widthN (n b0 b1 b2 b3:Nat):Nat:=if decodeN n b0 b1 b2 b3=(65533,1) then 0 else(decodeN n b0 b1 b2 b3).2
theorem w_ascii (n b0 b1 b2 b3:Nat) (h:b0<128):widthN n b0 b1 b2 b3=1:=by
 unfold widthN
 have:decodeN n b0 b1 b2 b3=(b0,1):=by simp [decodeN,h]
 rw[this,if_neg (by simp;omega)]
theorem w_bad (n b0 b1 b2 b3:Nat) (h:128≤b0) (h':b0<194∨244<b0) (hb:b0<256):widthN n b0 b1 b2 b3=0:=by
 unfold widthN
 have:decodeN n b0 b1 b2 b3=(65533,1):=by
  unfold decodeN
  repeat' split
  all_goals first|rfl|(exfalso;omega)
 rw[this,if_pos rfl]
theorem pick_width {c:Prop} [Decidable c] {x:Nat × Nat} {v k:Nat} (hk:k≠1) (h:x=if c then(v,k) else(65533,1)):(if x=(65533,1) then 0 else x.2)=if c then k else 0:=by
 subst h
 by_cases hc:c
 ·rw[if_pos hc,if_pos hc,if_neg (fun e=>hk (Prod.mk.inj e).2)]
 ·rw[if_neg hc,if_neg hc,if_pos rfl]
theorem w_two (n b0 b1 b2 b3 lo hi:Nat) (hs:slowN n b0 b1 b2 b3 2 lo hi=decodeN n b0 b1 b2 b3) :
  widthN n b0 b1 b2 b3=if 2≤n∧lo≤b1∧b1≤hi then 2 else 0:=by
 unfold widthN
 rw[← hs]
 refine pick_width (v:=b0 % 32*64+b1 % 64) (by omega) ?_
 unfold slowN
 by_cases c:2≤n∧lo≤b1∧b1≤hi
 ·rw[if_pos c,if_neg (by omega),if_neg (by omega),if_pos (by omega)]
 ·rw[if_neg c]
  by_cases a:n<2
  ·rw[if_pos a]
  ·rw[if_neg a,if_pos (by omega)]
theorem w_three (n b0 b1 b2 b3 lo hi:Nat) (hs:slowN n b0 b1 b2 b3 3 lo hi=decodeN n b0 b1 b2 b3) :
  widthN n b0 b1 b2 b3=if 3≤n∧(lo≤b1∧b1≤hi)∧128≤b2∧b2≤191 then 3 else 0:=by
 unfold widthN
 rw[← hs]
 refine pick_width (v:=b0 % 16*4096+b1 % 64*64+b2 % 64) (by omega) ?_
 unfold slowN
 by_cases c:3≤n∧(lo≤b1∧b1≤hi)∧128≤b2∧b2≤191
 ·rw[if_pos c,if_neg (by omega),if_neg (by omega),if_neg (by omega),if_neg (by omega),if_pos (by omega)]
 ·rw[if_neg c]
  by_cases a:n<3
  ·rw[if_pos a]
  ·rw[if_neg a]
   by_cases d:b1<lo∨hi<b1
   ·rw[if_pos d]
   ·rw[if_neg d,if_neg (by omega),if_pos (by omega)]
theorem w_four (n b0 b1 b2 b3 lo hi:Nat) (hs:slowN n b0 b1 b2 b3 4 lo hi=decodeN n b0 b1 b2 b3) :
  widthN n b0 b1 b2 b3=if 4≤n∧(lo≤b1∧b1≤hi)∧(128≤b2∧b2≤191)∧128≤b3∧b3≤191 then 4 else 0:=by
 unfold widthN
 rw[← hs]
 refine pick_width (v:=b0 % 8*262144+b1 % 64*4096+b2 % 64*64+b3 % 64) (by omega) ?_
 unfold slowN
 by_cases c:4≤n∧(lo≤b1∧b1≤hi)∧(128≤b2∧b2≤191)∧128≤b3∧b3≤191
 ·rw[if_pos c,if_neg (by omega),if_neg (by omega),if_neg (by omega),if_neg (by omega),if_neg (by omega),if_neg (by omega)]
 ·rw[if_neg c]
  by_cases a:n<4
  ·rw[if_pos a]
  ·rw[if_neg a]
   by_cases d:b1<lo∨hi<b1
   ·rw[if_pos d]
   ·rw[if_neg d,if_neg (by omega)]
    by_cases g:b2<128∨191<b2
    ·rw[if_pos g]
    ·rw[if_neg g,if_neg (by omega),if_pos (by omega)]
def moreB (s:ByteArray) (i lo hi:Nat):Bool:=decide (i<s.size∧lo≤(s.get! i).toNat∧(s.get! i).toNat≤hi)
theorem moreB_yes {s:ByteArray} {i lo hi:Nat} (h:moreB s i lo hi=true):i<s.size∧lo≤(s.get! i).toNat∧(s.get! i).toNat≤hi:=of_decide_eq_true h
theorem moreB_no {s:ByteArray} {i lo hi:Nat} (h:moreB s i lo hi=false):¬ (i<s.size∧lo≤(s.get! i).toNat∧(s.get! i).toNat≤hi):=of_decide_eq_false h
def widthS (s:ByteArray) (i:Nat):Nat:=widthN (s.size - i) (s.get! i).toNat (s.get! (i+1)).toNat (s.get! (i+2)).toNat (s.get! (i+3)).toNat
theorem widthS_eq (s:ByteArray) (i:Nat):widthS s i=if Utf8.decode s i=(65533,1) then 0 else(Utf8.decode s i).2:=by
 rw[decode_at];rfl
theorem byte_lt (s:ByteArray) (i:Nat):(s.get! i).toNat<256:=UInt8.toNat_lt _
section
variable {s:ByteArray} {i:Nat}
theorem ws_ascii (h:(s.get! i).toNat<128):widthS s i=1:=w_ascii _ _ _ _ _ h
theorem ws_bad (h:128≤(s.get! i).toNat) (h':(s.get! i).toNat<194∨244<(s.get! i).toNat):widthS s i=0:=w_bad _ _ _ _ _ h h' (byte_lt s i)
theorem ws_two (hi:i<s.size) (h:194≤(s.get! i).toNat) (h':(s.get! i).toNat<224):widthS s i=if moreB s (i+1) 128 191 then 2 else 0:=by
 unfold widthS
 rw[w_two _ _ _ _ _ _ _ (slow_C2 _ _ _ _ _ (by omega) (byte_lt _ _) (byte_lt _ _) (byte_lt _ _) ⟨h,h'⟩)]
 cases hm:moreB s (i+1) 128 191 with
 |true=>have:=moreB_yes hm;rw[if_pos (by omega),if_pos rfl]
 |false=>have:=moreB_no hm;rw[if_neg (by omega)];rfl
theorem ws_three (lo hi:Nat) (hi':i<s.size) (hc:slowN (s.size - i) (s.get! i).toNat (s.get! (i+1)).toNat (s.get! (i+2)).toNat (s.get! (i+3)).toNat 3 lo hi=decodeN (s.size - i) (s.get! i).toNat (s.get! (i+1)).toNat (s.get! (i+2)).toNat (s.get! (i+3)).toNat) :
  widthS s i=if moreB s (i+1) lo hi && moreB s (i+2) 128 191 then 3 else 0:=by
 unfold widthS
 rw[w_three _ _ _ _ _ _ _ hc]
 cases hm:moreB s (i+1) lo hi with
 |false=>have:=moreB_no hm;rw[if_neg (by omega)];rfl
 |true=>
  have:=moreB_yes hm
  cases hn:moreB s (i+2) 128 191 with
  |true=>have:=moreB_yes hn;rw[if_pos (by omega)];rfl
  |false=>have:=moreB_no hn;rw[if_neg (by omega)];rfl
theorem ws_four (lo hi:Nat) (hi':i<s.size) (hc:slowN (s.size - i) (s.get! i).toNat (s.get! (i+1)).toNat (s.get! (i+2)).toNat (s.get! (i+3)).toNat 4 lo hi=decodeN (s.size - i) (s.get! i).toNat (s.get! (i+1)).toNat (s.get! (i+2)).toNat (s.get! (i+3)).toNat) :
  widthS s i=if moreB s (i+1) lo hi && moreB s (i+2) 128 191 && moreB s (i+3) 128 191 then 4 else 0:=by
 unfold widthS
 rw[w_four _ _ _ _ _ _ _ hc]
 cases hm:moreB s (i+1) lo hi with
 |false=>have:=moreB_no hm;rw[if_neg (by omega)];rfl
 |true=>
  have:=moreB_yes hm
  cases hn:moreB s (i+2) 128 191 with
  |false=>have:=moreB_no hn;rw[if_neg (by omega)];rfl
  |true=>
   have:=moreB_yes hn
   cases ho:moreB s (i+3) 128 191 with
   |true=>have:=moreB_yes ho;rw[if_pos (by omega)];rfl
   |false=>have:=moreB_no ho;rw[if_neg (by omega)];rfl
theorem ws_E0 (hi:i<s.size) (h:(s.get! i).toNat=224):widthS s i=if moreB s (i+1) 160 191 && moreB s (i+2) 128 191 then 3 else 0:=
 ws_three _ _ hi (slow_E0 _ _ _ _ _ (by omega) (byte_lt _ _) (byte_lt _ _) (byte_lt _ _) h)
theorem ws_ED (hi:i<s.size) (h:(s.get! i).toNat=237):widthS s i=if moreB s (i+1) 128 159 && moreB s (i+2) 128 191 then 3 else 0:=
 ws_three _ _ hi (slow_ED _ _ _ _ _ (by omega) (byte_lt _ _) (byte_lt _ _) (byte_lt _ _) h)
theorem ws_E1 (hi:i<s.size) (h:224<(s.get! i).toNat) (h':(s.get! i).toNat<240) (h2:(s.get! i).toNat≠237):widthS s i=if moreB s (i+1) 128 191 && moreB s (i+2) 128 191 then 3 else 0:=
 ws_three _ _ hi (slow_E1 _ _ _ _ _ (by omega) (byte_lt _ _) (byte_lt _ _) (byte_lt _ _) (by omega))
theorem ws_F0 (hi:i<s.size) (h:(s.get! i).toNat=240):widthS s i=if moreB s (i+1) 144 191 && moreB s (i+2) 128 191 && moreB s (i+3) 128 191 then 4 else 0:=
 ws_four _ _ hi (slow_F0 _ _ _ _ _ (by omega) (byte_lt _ _) (byte_lt _ _) (byte_lt _ _) h)
theorem ws_F4 (hi:i<s.size) (h:(s.get! i).toNat=244):widthS s i=if moreB s (i+1) 128 143 && moreB s (i+2) 128 191 && moreB s (i+3) 128 191 then 4 else 0:=
 ws_four _ _ hi (slow_F4 _ _ _ _ _ (by omega) (byte_lt _ _) (byte_lt _ _) (byte_lt _ _) h)
theorem ws_F1 (hi:i<s.size) (h:240<(s.get! i).toNat) (h':(s.get! i).toNat<244):widthS s i=if moreB s (i+1) 128 191 && moreB s (i+2) 128 191 && moreB s (i+3) 128 191 then 4 else 0:=
 ws_four _ _ hi (slow_F1 _ _ _ _ _ (by omega) (byte_lt _ _) (byte_lt _ _) (byte_lt _ _) ⟨by omega,h'⟩)
end
open Go.RowKit Go.Lib
def faultZ (r k p:Int):Int:=if r=65533∧k=1 then 101 else if r=0 then 102 else if r=65279∧0<p then 103 else 0
theorem get_lt (s:ByteArray) (i:Nat) (h:i<s.size):s.get! i=s[i]:=by
 show s.data[i]! = s.data[i]
 exact getElem!_pos s.data i h
def moreZ (s:ByteArray) (i lo hi:Int):Bool:=moreB s i.toNat lo.toNat hi.toNat
theorem more_any (s:ByteArray) (i:Int) (lo hi:Int) (w:World) (hi0:0≤i) (h0:0≤lo) (h1:0≤hi) :
  Calls Tryz.prog 188 #[.string s,.int .i64 i,.int .u8 lo,.int .u8 hi] w fun e w'=>e=.returned (.bool (moreZ s i lo hi))∧w=w':=by
 obtain⟨n,rfl⟩:=Int.eq_ofNat_of_zero_le hi0
 show Calls _ _ _ _ fun e w'=>e=.returned (.bool (moreB s n lo.toNat hi.toNat))∧w=w'
 by_cases hi':n<s.size
 ·have hg:s.get! n=s[n]:=get_lt s n hi'
  by_cases hl:lo≤(s[n].toNat:Int)
  ·by_cases hh:(s[n].toNat:Int)≤hi
   ·have e:moreB s n lo.toNat hi.toNat=true:=decide_eq_true (by rw[hg];omega)
    rw[e]
    clear e hg
    go_enter Tryz.func188,Tryz.ntmps188
    go_wp2
    go_ret
    exact⟨rfl,rfl⟩
   ·have e:moreB s n lo.toNat hi.toNat=false:=decide_eq_false (by rw[hg];omega)
    rw[e]
    clear e hg
    go_enter Tryz.func188,Tryz.ntmps188
    go_wp2
    go_ret
    exact⟨rfl,rfl⟩
  ·have e:moreB s n lo.toNat hi.toNat=false:=decide_eq_false (by rw[hg];omega)
   rw[e]
   clear e hg
   go_enter Tryz.func188,Tryz.ntmps188
   go_wp2
   go_ret
   exact⟨rfl,rfl⟩
 ·have e:moreB s n lo.toNat hi.toNat=false:=decide_eq_false (by omega)
  rw[e]
  clear e
  have hd:decide ((n:Int)<(s.size:Int))=false:=decide_eq_false (by omega)
  go_enter Tryz.func188,Tryz.ntmps188
  go_wp2
  go_ret
  exact⟨rfl,rfl⟩
open Go.RowKit Go.Lib
def runeAt (s:ByteArray) (i:Nat):Nat:=(Utf8.decode s i).1
def wideAt (s:ByteArray) (i:Nat):Nat:=(Utf8.decode s i).2
def codeAt (s:ByteArray) (i:Nat):Int:=faultZ (runeAt s i) (wideAt s i) i
structure Dg where
 code:Int
 start:Nat
 stop:Nat
def headOf (s:ByteArray) (i:Nat):List Dg:=if codeAt s i=0 then[] else[⟨codeAt s i,i,i+wideAt s i⟩]
def rest (s:ByteArray):Nat→Nat→List Dg
 |0,_=>[]
 |f+1,i=>if i<s.size then headOf s i ++ rest s f (i+wideAt s i) else[]
def diags (s:ByteArray) (i:Nat):List Dg:=rest s (s.size - i) i
theorem wide_pos (s:ByteArray) (i:Nat):1≤wideAt s i:=width_pos s i
theorem rest_fuel (s:ByteArray):∀ (f g i:Nat),s.size - i≤f→s.size - i≤g→rest s f i=rest s g i:=by
 intro f
 induction f with
 |zero=>
  intro g i h _
  cases g with
  |zero=>rfl
  |succ g=>simp only[rest];rw[if_neg (by omega)]
 |succ f ih=>
  intro g i h hg
  cases g with
  |zero=>simp only[rest];rw[if_neg (by omega)]
  |succ g=>
   have:=wide_pos s i
   simp only[rest]
   by_cases c:i<s.size
   ·rw[if_pos c,if_pos c,ih g (i+wideAt s i) (by omega) (by omega)]
   ·rw[if_neg c,if_neg c]
theorem diags_end (s:ByteArray) (i:Nat) (h:¬ i<s.size):diags s i=[]:=by
 unfold diags
 rw[show s.size - i=0 by omega]
 rfl
theorem diags_step (s:ByteArray) (i:Nat) (h:i<s.size):diags s i=headOf s i ++ diags s (i+wideAt s i):=by
 unfold diags
 have:=wide_pos s i
 obtain⟨f,hf⟩:∃ f,s.size - i=f+1:=⟨s.size - i - 1,by omega⟩
 rw[hf]
 simp only[rest]
 rw[if_pos h,rest_fuel s f (s.size - (i+wideAt s i)) _ (by omega) (by omega)]
theorem wide_le (s:ByteArray) (i:Nat) (h:i<s.size):i+wideAt s i≤s.size:=by
 have e:wideAt s i=(decodeN (s.size - i) (s.get! i).toNat (s.get! (i+1)).toNat (s.get! (i+2)).toNat (s.get! (i+3)).toNat).2:=by unfold wideAt;rw[decode_at]
 rw[e]
 unfold decodeN
 repeat' split
 all_goals(simp only;omega)
structure Far (s:ByteArray) (i:Nat) (D:List Dg):Prop where
 le:i≤s.size
 told:D ++ diags s i=diags s 0
 few:D.length≤i
theorem Far.zero (s:ByteArray):Far s 0 []:=⟨Nat.zero_le _,rfl,Nat.le_refl _⟩
theorem Far.none {s:ByteArray} {i:Nat} {D:List Dg} (h:Far s i D) (hi:i<s.size) (hc:codeAt s i=0):Far s (i+wideAt s i) D:=
 ⟨wide_le s i hi,by rw[← h.told,diags_step s i hi,headOf,if_pos hc];rfl,by have:=h.few;omega⟩
theorem Far.some {s:ByteArray} {i:Nat} {D:List Dg} (h:Far s i D) (hi:i<s.size) (hc:codeAt s i≠0):Far s (i+wideAt s i) (D ++ [⟨codeAt s i,i,i+wideAt s i⟩]):=
 ⟨wide_le s i hi,by rw[← h.told,diags_step s i hi,headOf,if_neg hc];simp,by have:=h.few;have:=wide_pos s i;simp;omega⟩
theorem Far.done {s:ByteArray} {i:Nat} {D:List Dg} (h:Far s i D) (hi:¬ i<s.size):D=diags s 0:=by
 have:=h.told
 rw[diags_end s i hi,List.append_nil] at this
 exact this
theorem codeAt_bad {s:ByteArray} {i:Nat} (h:widthS s i=0):codeAt s i=101∧wideAt s i=1:=by
 rw[widthS_eq] at h
 by_cases c:Utf8.decode s i=(65533,1)
 ·have h1:runeAt s i=65533:=by unfold runeAt;rw[c]
  have h2:wideAt s i=1:=by unfold wideAt;rw[c]
  exact⟨by unfold codeAt faultZ;rw[if_pos (by omega)],h2⟩
 ·rw[if_neg c] at h
  have:=wide_pos s i
  unfold wideAt at this
  omega
theorem wide_good {s:ByteArray} {i:Nat} (h:widthS s i≠0):wideAt s i=widthS s i∧¬ (runeAt s i=65533∧wideAt s i=1):=by
 rw[widthS_eq] at h ⊢
 by_cases c:Utf8.decode s i=(65533,1)
 ·rw[if_pos c] at h;omega
 ·rw[if_neg c] at h ⊢
  exact⟨rfl,fun⟨a,b⟩=>c (Prod.ext a b)⟩
theorem decode_bytes (s:ByteArray) (i:Nat):Utf8.decode s i=decodeN (s.size - i) (s.get! i).toNat (s.get! (i+1)).toNat (s.get! (i+2)).toNat (s.get! (i+3)).toNat:=decode_at s i
theorem nul_iff {s:ByteArray} {i:Nat}:runeAt s i=0↔(s.get! i).toNat=0:=by
 unfold runeAt
 rw[decode_bytes]
 unfold decodeN
 constructor
 ·intro h
  by_cases a:(s.get! i).toNat<128
  ·rw[if_pos a] at h;exact h
  ·rw[if_neg a] at h
   exfalso
   revert h
   repeat' split
   all_goals(simp only;omega)
 ·intro h
  rw[if_pos (by omega)]
  exact h
theorem mark_iff {s:ByteArray} {i:Nat}:runeAt s i=65279↔(2<s.size - i∧(s.get! i).toNat=239∧(s.get! (i+1)).toNat=187∧(s.get! (i+2)).toNat=191):=by
 unfold runeAt
 rw[decode_bytes]
 have h0:=byte_lt s i
 have h1:=byte_lt s (i+1)
 have h2:=byte_lt s (i+2)
 have h3:=byte_lt s (i+3)
 generalize (s.get! i).toNat=b0 at *
 generalize (s.get! (i+1)).toNat=b1 at *
 generalize (s.get! (i+2)).toNat=b2 at *
 generalize (s.get! (i+3)).toNat=b3 at *
 generalize s.size - i=n at *
 unfold decodeN
 constructor
 ·intro h
  revert h
  repeat' split
  all_goals(simp only;omega)
 ·rintro⟨a,b,c,d⟩
  subst b;subst c;subst d
  rw[if_neg (by omega),if_neg (by omega),if_pos (by omega),if_pos (by omega)]
end Go.Proofs.YtcekbbkidipbnaaGreat.dec
