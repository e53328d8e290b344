/-
  Steps that stand often, by name.
-/
import Derived.BigQuiet
import Derived.Carry
import Derived.ChangeAlike
import Derived.ChangeOld
import Derived.Deep.AppendLies
import Derived.Deep.DeepCutAuto
import Derived.Deep.DeepFit
import Derived.Deep.DeepHandedRow
import Derived.Deep.Fields
import Derived.Deep.QuietTactic
import Derived.Deep.RegionHeld3
import Derived.Deep.RegionLaw
import Derived.Deep.Slices
import Derived.Deep.WholeRow
import Derived.Handy
import Derived.IntWalk
import Derived.JoinedCond
import Derived.LaidLaws
import Derived.Laws.Bits128
import Derived.Laws.BytesString
import Derived.Laws.CopyRow
import Derived.Laws.IdiomStrings
import Derived.Laws.OwnMore
import Derived.Laws.Rows
import Derived.Lib.AppendZeros
import Derived.Lib.DecodeNEq
import Derived.Lib.Hide
import Derived.Lib.IndexMore
import Derived.Lib.LaidU8
import Derived.Lib.RuneBytes
import Derived.Lib.RuneCountTail
import Derived.Lib.SliceRun
import Derived.Lib.Small
import Derived.Lib.Strings
import Derived.Lib.TrimU
import Derived.Lib.UnsafeStr
import Derived.Maps.AppendAt
import Derived.OpenShut
import Derived.ProofKit
import Derived.RegionTactic
import Derived.Shelf.Abstract
import Derived.Shelf.Unicode.DecodeSlow
import Derived.WalkKit
import Derived.WalkMore
import Derived.WalkSpells
namespace Go.Proofs.YtcekbbkidipbnaaGreat
theorem zaa{P:Prop}(h:P:=by
 all_goals go_wp2_with (first|(go_at_call 42;refine(zhG ‹_› zeu).mono ?_;rintro e w' ⟨rfl,hat⟩)|(go_at_call 62;first|(refine(zfE ‹_›).mono ?_;rintro e w' ⟨rfl,rfl⟩)|(refine(zfD ‹_›).mono ?_;rintro e w' ⟨⟨v,rfl⟩,rfl⟩))|(go_at_call 58;first|(refine(zgT ‹_› ‹_›).mono ?_;rintro e w' ⟨rfl,rfl⟩)|(refine(zgN ‹_›).mono ?_;rintro e w' ⟨rfl,rfl⟩))|(go_at_call 32;refine(zfK ‹_› zeu).mono ?_;rintro e w' ⟨v,rfl,hat⟩)|(go_at_call 96;refine(zgP HCL ‹_› zeu).mono ?_;rintro e w' ⟨v,rfl,hat⟩)|(go_at_call 51;first|(refine((ih _ ?hk).type _ _ _ _ _ ‹_› ‹_›).mono ?_;(case hk=>omega);rintro e w' ⟨v,rfl,hat⟩)|(refine(zgo HCL _ _ _ _ _ _ ‹_›).mono ?_;rintro e w' ⟨v,rfl,hat⟩))|(go_at_call 34;refine(zfG ‹_› _ zeu).mono ?_;rintro e w' ⟨rfl,hat⟩)|(go_at_call 38;refine(HCL _ _ _ _ _ _ _ _ ‹_› zev zeu).mono ?_;rintro e w' ⟨v,rfl,hat⟩)|(go_at_call 52;first|(refine((ih _ ?hk).sig _ _ _ _ _ ‹_› ‹_›).mono ?_;(case hk=>omega);rintro e w' ⟨v,rfl,hat⟩)|(refine(zjr HCL _ _ _ _ _ _ ‹_›).mono ?_;rintro e w' ⟨v,rfl,hat⟩))|(go_at_call 97;first|(refine((ih _ ?hk).array _ _ _ _ _ _ _ ‹_› zev ‹_›).mono ?_;(case hk=>omega);rintro e w' ⟨v,rfl,hat⟩)|(refine(zil HCL _ _ _ _ _ _ _ ‹_›).mono ?_;rintro e w' ⟨v,rfl,hat⟩))|(go_at_call 98;first|(refine((ih _ ?hk).items _ _ _ _ _ _ ‹_› ‹_›).mono ?_;(case hk=>omega);rintro e w' ⟨v,rfl,hat⟩)|(refine(ziq HCL _ _ _ _ _ _ _ ‹_›).mono ?_;rintro e w' ⟨v,rfl,hat⟩))|(go_at_call 46;refine(zgw ‹_› _ zeu).mono ?_;rintro e w' ⟨v,rfl,hat⟩)|(go_at_call 44;refine(zjH ‹_› zeu).mono ?_;rintro e w' ⟨v,rfl,hat⟩)|(go_at_call 95;first|(with_reducible refine(zfC ‹_› ?hc).mono ?_;(case hc=>simp [Res.comes, *]);rintro e w' ⟨rfl,hat⟩)|(with_reducible refine(zfz ‹_› ?hc).mono ?_;(case hc=>simp [Res.comes, *]);rintro e w' ⟨rfl,hat⟩))|(go_at_call 48;refine(zgW HCL ‹_› zeu).mono ?_;rintro e w' ⟨v,rfl,hat⟩)|(go_at_call 49;first|(refine((ih _ ?hk).X _ _ _ _ _ _ ‹_› ‹_›).mono ?_;(case hk=>omega);rintro e w' ⟨v,rfl,hat⟩)|(refine(X_f HCL _ _ _ _ _ _ _ ‹_›).mono ?_;rintro e w' ⟨v,rfl,hat⟩))|(go_at_call 178;first|(refine((ih _ ?hk).flat _ _ _ _ _ ‹_› ‹_›).mono ?_;(case hk=>omega);rintro e w' ⟨v,rfl,hat⟩)|(refine(zpf HCL _ _ _ _ _ _ ‹_›).mono ?_;rintro e w' ⟨v,rfl,hat⟩))|(go_at_call 61;first|(refine(zfS ‹_›).mono ?_;rintro e w' ⟨rfl,rfl⟩)|(refine(zfQ ‹_›).mono ?_;rintro e w' ⟨⟨v,_,rfl⟩,rfl⟩))|(go_at_call 57;first|(refine(zfI ‹_› ‹_›).mono ?_;rintro e w' ⟨rfl,hat⟩)|(refine(zfH ‹_›).mono ?_;rintro e w' ⟨rfl,hat⟩))|(go_at_call 47;refine(zik ‹_› zeu).mono ?_;rintro e w' ⟨v,rfl,hat⟩)|(go_at_call 31;refine(zfZ ‹_› zeu).mono ?_;rintro e w' ⟨v,rfl,hat⟩)|(go_at_call 37;refine(zfP _ _ _ _ _ _ _ _ ‹_› zev zez zeu).mono ?_;rintro e w' ⟨v,rfl,hat⟩)|(go_at_call 139;first|(refine(zgY (ih:=ih _ ?hk) ‹_› ‹_›).mono ?_;(case hk=>omega);rintro e w' ⟨v,rfl,hat⟩)|(refine(zgv _ _ _ _ _ _ ‹_›).mono ?_;rintro e w' ⟨v,rfl,hat⟩))|(go_at_call 33;refine(zfO ‹_› _ zeu).mono ?_;rintro e w' ⟨rfl,hat⟩)|(go_at_call 23;first|(refine((ih _ ?hk).type _ _ _ _ _ ‹_› ‹_›).mono ?_;(case hk=>omega);rintro e w' ⟨v,rfl,hat⟩)|(refine(zij _ _ _ _ _ _ ‹_›).mono ?_;rintro e w' ⟨v,rfl,hat⟩))|(go_at_call 45;refine(zgu ‹_› _ zeu).mono ?_;rintro e w' ⟨v,rfl,hat⟩)|(go_at_call 174;refine(zqs ‹_› ‹_› ‹_› ‹_› (fun j hj=>ih j zdC)).mono ?_;rintro e w' ⟨v,rfl,hat⟩)|(go_at_call 60;first|(refine(zhU ‹_› 1 zdD ‹_›).mono ?_;rintro e w' ⟨rfl,rfl⟩)|(refine(zgQ ‹_› 1 zdD).mono ?_;rintro e w' ⟨rfl,rfl⟩))|(go_at_call 35;refine(zjg ‹_› zeu).mono ?_;rintro e w' ⟨v,rfl,hat⟩)|(go_at_call 83;first|(refine(zfX ‹_› ‹_› zeu).mono ?_;rintro e w' ⟨rfl,hat⟩)|(refine(zgb ‹_› ?hno).mono ?_;(case hno=>first|assumption|rfl|simp [*]);rintro e w' ⟨rfl,hat⟩))|(go_at_call 115;refine(ziK ‹_› zeu).mono ?_;rintro e w' ⟨v,rfl,hat⟩)|(go_at_call 118;refine(zpd ‹_› ‹_›).mono ?_;rintro e w' ⟨rfl,hat⟩)|(go_at_call 84;refine(zhR hn ‹_› (by first|with_reducible assumption|exact Lib.hid rfl) zfd).mono ?_;rintro e w' ⟨c,rfl,hat⟩)|(go_at_call 73;(with_reducible refine(zgF (C:=C) (A:=#[.pointer (some ⟨b,0,none⟩)]) (B:=#[]) (g:=rQualified) zlE HF.out ‹_› ‹_› ‹_› ‹_›).mono ?_);rintro e w' ⟨v,rfl,hat⟩)|(go_at_call 165;first|(refine((ih _ ?hk).values _ _ _ _ _ ‹_› ‹_›).mono ?_;(case hk=>omega);rintro e w' ⟨v,rfl,hat⟩)|(refine(zhb HCL _ _ _ _ _ _ ‹_›).mono ?_;rintro e w' ⟨v,rfl,hat⟩))|(go_at_call 36;refine(zgU ‹_› zeu).mono ?_;rintro e w' ⟨v,rfl,hat⟩)|(go_at_call 179;first|(refine((ih _ ?hk).cut _ _ _ _ _ _ _ ‹_› zev ‹_›).mono ?_;(case hk=>omega);rintro e w' ⟨v,rfl,hat⟩)|(refine(ziB HCL _ _ _ _ _ _ _ ‹_›).mono ?_;rintro e w' ⟨v,rfl,hat⟩))|(go_at_call 176;first|(refine((ih _ ?hk).cut _ _ _ _ _ _ _ ‹_› zev zeY ‹_›).mono ?_;(case hk=>omega);rintro e w' ⟨v,rfl,hat⟩))|(go_at_call 116;refine(znk ‹_› ‹_› ‹_› (fun j hj=>ih j zdC)).mono ?_;rintro e w' ⟨v,rfl,hat⟩)|(go_at_call 117;refine(ztN ‹_› ‹_› (fun j hj=>ih j zdC)).mono ?_;rintro e w' ⟨v,rfl,hat⟩)|(go_at_call 59;first|(refine(zsA ‹_› 1 zdD ‹_›).mono ?_;rintro e w' ⟨rfl,hat⟩)|(refine(zhE ‹_› 1 zdD).mono ?_;rintro e w' ⟨rfl,hat⟩))|(go_at_call 24;first|(refine((ih _ ?hk).sig _ _ _ _ _ ‹_› ‹_›).mono ?_;(case hk=>omega);rintro e w' ⟨v,rfl,hat⟩)|(refine(cSig_f _ _ _ _ _ _ ‹_›).mono ?_;rintro e w' ⟨v,rfl,hat⟩))|(go_at_call 119;first|(refine(ziv (n:=n) zdC (fun j hj=>ih j zdC) _ _ _ _ _ _ ‹_› ‹_› ‹_›).mono ?_;rintro e w' ⟨c,rfl,hat,hct⟩)|(refine(zlJ _ _ _ _ _ _ ‹_›).mono ?_;rintro e w' ⟨c,rfl,hat⟩))|(go_at_call 41;refine(zim ‹_› zeu).mono ?_;rintro e w' ⟨rfl,hat⟩)|(go_at_call 113;first|(refine((ih _ ?hk).unary _ _ _ _ _ _ ‹_› ‹_›).mono ?_;(case hk=>omega);rintro e w' ⟨v,rfl,hat⟩)|(refine(zhk _ _ _ _ _ _ _ ‹_›).mono ?_;rintro e w' ⟨v,rfl,hat⟩))|(go_at_call 43;refine(zmx ‹_› zeu).mono ?_;rintro e w' ⟨v,rfl,hat⟩)|(go_at_call 175;refine(zpa ‹_› ‹_› ‹_› zdC (fun j hj=>ih j zdC)).mono ?_;rintro e w' ⟨v,rfl,hat⟩)|(go_at_call 158;refine((ih _ ?hk).values _ _ _ _ _ _ _ _ _ ‹_› zev zez ‹_› ‹_›).mono ?_;(case hk=>omega);rintro e w' ⟨v,rfl,hat⟩)|(go_at_call 53;first|(refine((ih _ ?hk).params _ _ _ _ _ ‹_› ‹_›).mono ?_;(case hk=>omega);rintro e w' ⟨v,rfl,hat⟩)|(refine(hPF _ _ _ _ _ _ ‹_›).mono ?_;rintro e w' ⟨v,rfl,hat⟩))|(go_at_call 189;first|(refine((ih _ ?hk).flat _ _ _ _ _ ‹_› ‹_›).mono ?_;(case hk=>omega);rintro e w' ⟨v,rfl,hat⟩))|(go_at_call 190;first|(refine((ih _ ?hk).value _ _ _ _ _ ‹_› ‹_›).mono ?_;(case hk=>omega);rintro e w' ⟨v,rfl,hat⟩)|(refine(zki _ _ _ _ _ _ ‹_›).mono ?_;rintro e w' ⟨v,rfl,hat⟩))|(go_at_call 94;first|(refine((ih _ ?hk).binary _ _ _ _ _ _ _ ‹_› ‹_›).mono ?_;(case hk=>omega);rintro e w' ⟨v,rfl,hat⟩)|(refine(zix HCL _ _ _ _ _ _ _ _ ‹_›).mono ?_;rintro e w' ⟨v,rfl,hat⟩))|(go_at_call 71;first|(refine((ih _ ?hk).binary _ _ _ _ _ _ _ ‹_› ‹_›).mono ?_;(case hk=>omega);rintro e w' ⟨v,rfl,hat⟩)|(refine(zhD _ _ _ _ _ _ _ _ ‹_›).mono ?_;rintro e w' ⟨v,rfl,hat⟩))|(go_at_call 137;first|(refine((ih _ ?hk).primary _ _ _ _ _ _ ‹_› ‹_›).mono ?_;(case hk=>omega);rintro e w' ⟨v,rfl,hat⟩)|(refine(ziN _ _ _ _ _ _ _ ‹_›).mono ?_;rintro e w' ⟨v,rfl,hat⟩))|(go_at_call 136;refine(zpM (n:=n) (fun k hk=>ih k zdC) ‹_› ‹_› ‹_› ‹_› ‹_› ‹_›).mono ?_;rintro e w' ⟨v,rfl,hat⟩)|((go_at_call 78;refine(ztn ‹_› ‹_› (fun j hj=>ih j zdC)).mono ?_;rintro e w' ⟨v,rfl,hat⟩);have hc:=HBX.out _ _ hat))
 all_goals(first|go_end0|go_ret)
 all_goals exact⟨_,rfl,by assumption⟩):P:=h
theorem zab{P:Prop}(h:P:=by
 go_wp2_with (first|(go_at_call 62;first|(refine(zfE ‹_›).mono ?_;rintro e w' ⟨rfl,rfl⟩)|(refine(zfD ‹_›).mono ?_;rintro e w' ⟨⟨v,rfl⟩,rfl⟩))|(go_at_call 160;first|(refine((ih _ ?hk).operand _ _ _ _ _ ‹_› ‹_›).mono ?_;(case hk=>omega);rintro e w' ⟨v,rfl,hat⟩)|(refine(zgG HCL _ _ _ _ _ _ ‹_›).mono ?_;rintro e w' ⟨v,rfl,hat⟩);have hc8:=zft _ _ _ _ hat;first|rw[zfw] at hc8|rw[zfv] at hc8|skip)|(go_at_call 161;first|(refine((ih _ ?hk).period _ _ _ _ _ _ _ ‹_› zev ‹_›).mono ?_;(case hk=>omega);rintro e w' ⟨v,rfl,hat⟩)|(refine(zhp HCL _ _ _ _ _ _ _ ‹_›).mono ?_;rintro e w' ⟨v,rfl,hat⟩);have hc8:=zft _ _ _ _ hat;first|rw[zfw] at hc8|rw[zfv] at hc8|skip)|(go_at_call 162;first|(refine((ih _ ?hk).index _ _ _ _ _ _ _ ‹_› zev ‹_›).mono ?_;(case hk=>omega);rintro e w' ⟨v,rfl,hat⟩)|(refine(zhM HCL _ _ _ _ _ _ _ ‹_›).mono ?_;rintro e w' ⟨v,rfl,hat⟩);have hc8:=zft _ _ _ _ hat;first|rw[zfw] at hc8|rw[zfv] at hc8|skip)|(go_at_call 163;first|(refine((ih _ ?hk).call _ _ _ _ _ _ _ ‹_› zev ‹_›).mono ?_;(case hk=>omega);rintro e w' ⟨v,rfl,hat⟩)|(refine(zih HCL _ _ _ _ _ _ _ ‹_›).mono ?_;rintro e w' ⟨v,rfl,hat⟩);have hc8:=zft _ _ _ _ hat;first|rw[zfw] at hc8|rw[zfv] at hc8|skip)|(go_at_call 165;first|(refine((ih _ ?hk).values _ _ _ _ _ ‹_› ‹_›).mono ?_;(case hk=>omega);rintro e w' ⟨v,rfl,hat⟩)|(refine(zhb HCL _ _ _ _ _ _ ‹_›).mono ?_;rintro e w' ⟨v,rfl,hat⟩);have hc8:=zft _ _ _ _ hat;first|rw[zfw] at hc8|rw[zfv] at hc8|skip)|(go_at_call 38;refine(HCL _ _ _ _ _ _ _ _ ‹_› zev zew).mono ?_;rintro e w' ⟨v,rfl,hat⟩;have hc8:=zft _ _ _ _ hat;first|rw[zfw] at hc8|rw[zfv] at hc8|skip)|(go_at_call 95;first|(with_reducible refine(zfC ‹_› ?hc).mono ?_;(case hc=>simp [Res.comes, *]);rintro e w' ⟨rfl,hat⟩)|(with_reducible refine(zfz ‹_› ?hc).mono ?_;(case hc=>simp [Res.comes, *]);rintro e w' ⟨rfl,hat⟩);have hc8:=zft _ _ _ _ hat;first|rw[zfw] at hc8|rw[zfv] at hc8|skip)|(go_at_call 106;refine(zgx ‹_› _).mono ?_;rintro e w' ⟨n',rfl,hat,hti⟩;have hc8:=zft _ _ _ _ hat;first|rw[zfw] at hc8|rw[zfv] at hc8|skip)|(go_at_call 164;refine(zhd _ ‹_›).mono ?_;rintro e w2 ⟨rfl,hb2⟩;have hat:=At.below ‹_› hb2;have hc8:=zft _ _ _ _ hat;first|rw[zfw] at hc8|rw[zfv] at hc8|skip)|(go_at_call 31;refine(zfZ ‹_› zeu).mono ?_;rintro e w' ⟨v,rfl,hat⟩)|(go_at_call 57;first|(refine(zfI ‹_› ‹_›).mono ?_;rintro e w' ⟨rfl,hat⟩)|(refine(zfH ‹_›).mono ?_;rintro e w' ⟨rfl,hat⟩))|(go_at_call 139;first|(refine(zgY (ih:=ih _ ?hk) ‹_› ‹_›).mono ?_;(case hk=>omega);rintro e w' ⟨v,rfl,hat⟩)|(refine(zgv _ _ _ _ _ _ ‹_›).mono ?_;rintro e w' ⟨v,rfl,hat⟩))|(go_at_call 83;first|(refine(zfX ‹_› ‹_› zeu).mono ?_;rintro e w' ⟨rfl,hat⟩)|(refine(zgb ‹_› ?hno).mono ?_;(case hno=>first|assumption|rfl|simp [*]);rintro e w' ⟨rfl,hat⟩))|(go_at_call 33;refine(zfO ‹_› _ zeu).mono ?_;rintro e w' ⟨rfl,hat⟩)|(go_at_call 37;refine(zfP _ _ _ _ _ _ _ _ ‹_› zev zez zeu).mono ?_;rintro e w' ⟨v,rfl,hat⟩)|(go_at_call 61;first|(refine(zfS ‹_›).mono ?_;rintro e w' ⟨rfl,rfl⟩)|(refine(zfQ ‹_›).mono ?_;rintro e w' ⟨⟨v,_,rfl⟩,rfl⟩))|(go_at_call 45;refine(zgu ‹_› _ zeu).mono ?_;rintro e w' ⟨v,rfl,hat⟩)|(go_at_call 177;first|(refine(ziw ‹_› ‹_› ‹_› (fun j hj=>ih j zdC)).mono ?_;rintro e w' ⟨v,rfl,hat⟩)|(refine(zhy _ _ _ _ _ _ ‹_›).mono ?_;rintro e w' ⟨v,rfl,hat⟩))|(go_at_call 35;refine(zjg ‹_› zeu).mono ?_;rintro e w' ⟨v,rfl,hat⟩)|(go_at_call 53;refine(hPF _ _ _ _ _ _ ‹_›).mono ?_;rintro e w' ⟨v,rfl,hat⟩)|(go_at_call 124;refine(zhw HCL _ _ _ _ _ _ _ ‹_›).mono ?_;rintro e w' ⟨v,rfl,hat⟩)|(go_at_call 58;first|(refine(zgT ‹_› ‹_›).mono ?_;rintro e w' ⟨rfl,rfl⟩)|(refine(zgN ‹_›).mono ?_;rintro e w' ⟨rfl,rfl⟩))|(go_at_call 125;refine(zhO _ _).mono ?_;rintro e w' ⟨rfl,rfl⟩)|(go_at_call 113;refine(zhk _ _ _ _ _ _ _ ‹_›).mono ?_;rintro e w' ⟨v,rfl,hat⟩)|(go_at_call 114;refine(zhX _ _).mono ?_;rintro e w' ⟨rfl,rfl⟩)|(go_at_call 63;refine(zhe ‹_›).mono ?_;rintro e w' ⟨rfl,hat⟩)|(go_at_call 119;refine(zlJ _ _ _ _ _ _ ‹_›).mono ?_;rintro e w' ⟨c,rfl,hat⟩;rcases Bool.eq_false_or_eq_true (decide (1<c)) with hd|hd)|(go_at_call 84;refine(zhR (n:=0) zdC ‹_› (Lib.hid rfl) (zgL _ _ _ _ _)).mono ?_;rintro e w' ⟨c,rfl,hat⟩)|(go_at_call 120;refine(zkv _ _ _ _ _ _ ‹_›).mono ?_;rintro e w' ⟨v,rfl,hat⟩)|(go_at_call 46;refine(zgw ‹_› _ zeu).mono ?_;rintro e w' ⟨v,rfl,hat⟩)|(go_at_call 190;refine(zki _ _ _ _ _ _ ‹_›).mono ?_;rintro e w' ⟨v,rfl,hat⟩)|(go_at_call 137;refine(ziN _ _ _ _ _ _ _ ‹_›).mono ?_;rintro e w' ⟨v,rfl,hat⟩)|(go_at_call 23;refine(zij _ _ _ _ _ _ ‹_›).mono ?_;rintro e w' ⟨v,rfl,hat⟩)|(go_at_call 42;refine(zhG ‹_› zeu).mono ?_;rintro e w' ⟨rfl,hat⟩)|(go_at_call 41;refine(zim ‹_› zeu).mono ?_;rintro e w' ⟨rfl,hat⟩)|(go_at_call 22;refine(cX_f _ _ _ _ _ _ _ ‹_›).mono ?_;rintro e w' ⟨v,rfl,hat⟩))
 all_goals(first|go_end0|go_ret)
 all_goals exact⟨_,rfl,by assumption⟩):P:=h
theorem zac{P:Prop}(h:P:=by
 all_goals go_wp2_with (first|(go_at_call 62;first|(refine(zfE ‹_›).mono ?_;rintro e w' ⟨rfl,rfl⟩)|(refine(zfD ‹_›).mono ?_;rintro e w' ⟨⟨v,rfl⟩,rfl⟩))|(go_at_call 32;refine(zfK ‹_› zeu).mono ?_;rintro e w' ⟨v,rfl,hat⟩)|(go_at_call 42;refine(zhG ‹_› zeu).mono ?_;rintro e w' ⟨rfl,hat⟩)|(go_at_call 124;first|(refine((ih _ ?hk).unary _ _ _ _ _ _ ‹_› ‹_›).mono ?_;(case hk=>omega);rintro e w' ⟨v,rfl,hat⟩)|(refine(zhw HCL _ _ _ _ _ _ _ ‹_›).mono ?_;rintro e w' ⟨v,rfl,hat⟩))|(go_at_call 44;refine(zjH ‹_› zeu).mono ?_;rintro e w' ⟨v,rfl,hat⟩)|(go_at_call 38;refine(HCL _ _ _ _ _ _ _ _ ‹_› zev zeu).mono ?_;rintro e w' ⟨v,rfl,hat⟩)|(go_at_call 143;first|(refine((ih _ ?hk).primary _ _ _ _ _ _ ‹_› ‹_›).mono ?_;(case hk=>omega);rintro e w' ⟨v,rfl,hat⟩)|(refine(zia HCL _ _ _ _ _ _ _ ‹_›).mono ?_;rintro e w' ⟨v,rfl,hat⟩))|(go_at_call 95;first|(with_reducible refine(zfC ‹_› ?hc).mono ?_;(case hc=>simp [Res.comes, *]);rintro e w' ⟨rfl,hat⟩)|(with_reducible refine(zfz ‹_› ?hc).mono ?_;(case hc=>simp [Res.comes, *]);rintro e w' ⟨rfl,hat⟩)|(with_reducible refine(zkk ‹_› ?hc).mono ?_;(case hc=>simp [Res.comes, *]);rintro e w' ⟨rfl,hat⟩)|(with_reducible refine(zjB ‹_› ?hc).mono ?_;(case hc=>simp [Res.comes, *]);rintro e w' ⟨rfl,hat⟩))|(go_at_call 31;refine(zfZ ‹_› zeu).mono ?_;rintro e w' ⟨v,rfl,hat⟩)|(go_at_call 57;first|(refine(zfI ‹_› ‹_›).mono ?_;rintro e w' ⟨rfl,hat⟩)|(refine(zfH ‹_›).mono ?_;rintro e w' ⟨rfl,hat⟩))|(go_at_call 45;refine(zgu ‹_› _ zeu).mono ?_;rintro e w' ⟨v,rfl,hat⟩)|(go_at_call 35;refine(zjg ‹_› zeu).mono ?_;rintro e w' ⟨v,rfl,hat⟩)|(go_at_call 139;(refine(zgv _ _ _ _ _ _ ‹_›).mono ?_;rintro e w' ⟨v,rfl,hat⟩))|(go_at_call 83;first|(refine(zfX ‹_› ‹_› zeu).mono ?_;rintro e w' ⟨rfl,hat⟩)|(refine(zgb ‹_› ?hno).mono ?_;(case hno=>first|assumption|rfl|simp [*]);rintro e w' ⟨rfl,hat⟩))|(go_at_call 33;refine(zfO ‹_› _ zeu).mono ?_;rintro e w' ⟨rfl,hat⟩)|(go_at_call 37;refine(zfP _ _ _ _ _ _ _ _ ‹_› zev zez zeu).mono ?_;rintro e w' ⟨v,rfl,hat⟩)|(go_at_call 61;first|(refine(zfS ‹_›).mono ?_;rintro e w' ⟨rfl,rfl⟩)|(refine(zfQ ‹_›).mono ?_;rintro e w' ⟨⟨v,_,rfl⟩,rfl⟩))|(go_at_call 115;refine(ziK ‹_› zeu).mono ?_;rintro e w' ⟨v,rfl,hat⟩)|(go_at_call 23;first|(refine((ih _ ?hk).type _ _ _ _ _ ‹_› ‹_›).mono ?_;(case hk=>omega);rintro e w' ⟨v,rfl,hat⟩)|(refine(zij _ _ _ _ _ _ ‹_›).mono ?_;rintro e w' ⟨v,rfl,hat⟩))|(go_at_call 116;refine(ztt ‹_› ‹_› ‹_› (fun j hj=>ih j zdC)).mono ?_;rintro e w' ⟨v,rfl,hat⟩)|(go_at_call 119;refine(zlJ _ _ _ _ _ _ ‹_›).mono ?_;rintro e w' ⟨c,rfl,hat⟩)|(go_at_call 84;refine(zhR (n:=n) zdC ‹_› (by first|with_reducible assumption|exact Lib.hid rfl) zfd).mono ?_;rintro e w' ⟨c,rfl,hat⟩)|(go_at_call 120;refine(znP (n:=n) zdC ‹_› ‹_› ‹_› (fun j hj=>ih j zdC)).mono ?_;rintro e w' ⟨v,rfl,hat⟩)|(go_at_call 73;(with_reducible refine(zgF (C:=C) (A:=#[.pointer (some ⟨b,0,none⟩)]) (B:=#[]) (g:=run n .type) zjK HF.out ‹_› ‹_› ‹_› ‹_›).mono ?_);rintro e w' ⟨v,rfl,hat⟩)|((go_at_call 78;refine(zti ‹_› ‹_› (fun j hj=>ih j zdC)).mono ?_;rintro e w' ⟨v,rfl,hat⟩);have hc:=HBX.out _ _ hat))
 all_goals(first|go_end0|go_ret)
 all_goals exact⟨_,rfl,by assumption⟩):P:=h
theorem zad{P:Prop}(h:P:=by
 rcases hrel.out with⟨d0,d1,d2,hu,hat⟩|⟨k,s',hk,hq,hat,hy'⟩
 ·subst hu
  have hk0:(Res.fail d0 d1 d2).kind=0:=rfl
  go_wp2_with (first|(go_at_call 42;refine(zhG ‹_› zeu).mono ?_;rintro e w' ⟨rfl,hat⟩)|(go_at_call 62;first|(refine(zfE ‹_›).mono ?_;rintro e w' ⟨rfl,rfl⟩)|(refine(zfD ‹_›).mono ?_;rintro e w' ⟨⟨v,rfl⟩,rfl⟩))|(go_at_call 58;first|(refine(zgT ‹_› ‹_›).mono ?_;rintro e w' ⟨rfl,rfl⟩)|(refine(zgN ‹_›).mono ?_;rintro e w' ⟨rfl,rfl⟩))|(go_at_call 32;refine(zfK ‹_› zeu).mono ?_;rintro e w' ⟨v,rfl,hat⟩)|(go_at_call 96;refine(zgP HCL ‹_› zeu).mono ?_;rintro e w' ⟨v,rfl,hat⟩)|(go_at_call 51;first|(refine((ih _ ?hk).type _ _ _ _ _ ‹_› ‹_›).mono ?_;(case hk=>omega);rintro e w' ⟨v,rfl,hat⟩)|(refine(zgo HCL _ _ _ _ _ _ ‹_›).mono ?_;rintro e w' ⟨v,rfl,hat⟩))|(go_at_call 34;refine(zfG ‹_› _ zeu).mono ?_;rintro e w' ⟨rfl,hat⟩)|(go_at_call 38;refine(HCL _ _ _ _ _ _ _ _ ‹_› zev zeu).mono ?_;rintro e w' ⟨v,rfl,hat⟩)|(go_at_call 52;first|(refine((ih _ ?hk).sig _ _ _ _ _ ‹_› ‹_›).mono ?_;(case hk=>omega);rintro e w' ⟨v,rfl,hat⟩)|(refine(zjr HCL _ _ _ _ _ _ ‹_›).mono ?_;rintro e w' ⟨v,rfl,hat⟩))|(go_at_call 97;first|(refine((ih _ ?hk).array _ _ _ _ _ _ _ ‹_› zev ‹_›).mono ?_;(case hk=>omega);rintro e w' ⟨v,rfl,hat⟩)|(refine(zil HCL _ _ _ _ _ _ _ ‹_›).mono ?_;rintro e w' ⟨v,rfl,hat⟩))|(go_at_call 98;first|(refine((ih _ ?hk).items _ _ _ _ _ _ ‹_› ‹_›).mono ?_;(case hk=>omega);rintro e w' ⟨v,rfl,hat⟩)|(refine(ziq HCL _ _ _ _ _ _ _ ‹_›).mono ?_;rintro e w' ⟨v,rfl,hat⟩))|(go_at_call 46;refine(zgw ‹_› _ zeu).mono ?_;rintro e w' ⟨v,rfl,hat⟩)|(go_at_call 44;refine(zjH ‹_› zeu).mono ?_;rintro e w' ⟨v,rfl,hat⟩)|(go_at_call 95;first|(with_reducible refine(zfC ‹_› ?hc).mono ?_;(case hc=>simp [Res.comes, *]);rintro e w' ⟨rfl,hat⟩)|(with_reducible refine(zfz ‹_› ?hc).mono ?_;(case hc=>simp [Res.comes, *]);rintro e w' ⟨rfl,hat⟩))|(go_at_call 48;refine(zgW HCL ‹_› zeu).mono ?_;rintro e w' ⟨v,rfl,hat⟩)|(go_at_call 60;first|(refine(zhU ‹_› 1 zdD ‹_›).mono ?_;rintro e w' ⟨rfl,rfl⟩)|(refine(zgQ ‹_› 1 zdD).mono ?_;rintro e w' ⟨rfl,rfl⟩))|(go_at_call 36;refine(zgU ‹_› zeu).mono ?_;rintro e w' ⟨v,rfl,hat⟩)|(go_at_call 49;first|(refine((ih _ ?hk).X _ _ _ _ _ _ ‹_› ‹_›).mono ?_;(case hk=>omega);rintro e w' ⟨v,rfl,hat⟩)|(refine(X_f HCL _ _ _ _ _ _ _ ‹_›).mono ?_;rintro e w' ⟨v,rfl,hat⟩))|(go_at_call 179;first|(refine((ih _ ?hk).cut _ _ _ _ _ _ _ ‹_› zev ‹_›).mono ?_;(case hk=>omega);rintro e w' ⟨v,rfl,hat⟩)|(refine(ziB HCL _ _ _ _ _ _ _ ‹_›).mono ?_;rintro e w' ⟨v,rfl,hat⟩))|(go_at_call 124;first|(refine((ih _ ?hk).unary _ _ _ _ _ _ ‹_› ‹_›).mono ?_;(case hk=>omega);rintro e w' ⟨v,rfl,hat⟩)|(refine(zhw HCL _ _ _ _ _ _ _ ‹_›).mono ?_;rintro e w' ⟨v,rfl,hat⟩))|(go_at_call 94;first|(refine((ih _ ?hk).binary _ _ _ _ _ _ _ ‹_› ‹_›).mono ?_;(case hk=>omega);rintro e w' ⟨v,rfl,hat⟩)|(refine(zix HCL _ _ _ _ _ _ _ _ ‹_›).mono ?_;rintro e w' ⟨v,rfl,hat⟩))|(go_at_call 125;refine(zhO _ _).mono ?_;rintro e w' ⟨rfl,rfl⟩))
  all_goals(first|(go_roundw;(case rel=>exact(Lq.less zdC ‹_› ‹_› hq).1);(case measure=>exact(Lq.less (n:=n) zdC ‹_› ‹_› hq).2))|(go_end0;exact⟨_,rfl,by assumption⟩)|(go_ret;exact⟨_,rfl,by assumption⟩))
 ·rw[run] at hy'
  try dsimp only at hy'
  have hy2:=hy'
  clear hy'
  iterate 16 (all_goals try(first|split at hy2|(rw[zfu] at hy2;obtain⟨z,hz,hy2⟩:=hy2;try(rw[zfF] at hz;subst hz))))
  all_goals(first|(obtain rfl:=Option.some.inj hy2)|(replace hy2:=Lib.hid hy2))
  iterate 2 (all_goals try(rename _∧_=>ho;obtain⟨_,_⟩:=ho))
  iterate 7 (all_goals try(rename _∨_=>ho;rcases ho with ho|ho))
  all_goals(repeat (rename ¬ (_∨_)=>ho;rw[not_or] at ho;obtain⟨_,_⟩:=ho))
  all_goals go_wp2_with (first|(go_at_call 42;refine(zhG ‹_› zeu).mono ?_;rintro e w' ⟨rfl,hat⟩)|(go_at_call 62;first|(refine(zfE ‹_›).mono ?_;rintro e w' ⟨rfl,rfl⟩)|(refine(zfD ‹_›).mono ?_;rintro e w' ⟨⟨v,rfl⟩,rfl⟩))|(go_at_call 58;first|(refine(zgT ‹_› ‹_›).mono ?_;rintro e w' ⟨rfl,rfl⟩)|(refine(zgN ‹_›).mono ?_;rintro e w' ⟨rfl,rfl⟩))|(go_at_call 32;refine(zfK ‹_› zeu).mono ?_;rintro e w' ⟨v,rfl,hat⟩)|(go_at_call 96;refine(zgP HCL ‹_› zeu).mono ?_;rintro e w' ⟨v,rfl,hat⟩)|(go_at_call 51;first|(refine((ih _ ?hk).type _ _ _ _ _ ‹_› ‹_›).mono ?_;(case hk=>omega);rintro e w' ⟨v,rfl,hat⟩)|(refine(zgo HCL _ _ _ _ _ _ ‹_›).mono ?_;rintro e w' ⟨v,rfl,hat⟩))|(go_at_call 34;refine(zfG ‹_› _ zeu).mono ?_;rintro e w' ⟨rfl,hat⟩)|(go_at_call 38;refine(HCL _ _ _ _ _ _ _ _ ‹_› zev zeu).mono ?_;rintro e w' ⟨v,rfl,hat⟩)|(go_at_call 52;first|(refine((ih _ ?hk).sig _ _ _ _ _ ‹_› ‹_›).mono ?_;(case hk=>omega);rintro e w' ⟨v,rfl,hat⟩)|(refine(zjr HCL _ _ _ _ _ _ ‹_›).mono ?_;rintro e w' ⟨v,rfl,hat⟩))|(go_at_call 97;first|(refine((ih _ ?hk).array _ _ _ _ _ _ _ ‹_› zev ‹_›).mono ?_;(case hk=>omega);rintro e w' ⟨v,rfl,hat⟩)|(refine(zil HCL _ _ _ _ _ _ _ ‹_›).mono ?_;rintro e w' ⟨v,rfl,hat⟩))|(go_at_call 98;first|(refine((ih _ ?hk).items _ _ _ _ _ _ ‹_› ‹_›).mono ?_;(case hk=>omega);rintro e w' ⟨v,rfl,hat⟩)|(refine(ziq HCL _ _ _ _ _ _ _ ‹_›).mono ?_;rintro e w' ⟨v,rfl,hat⟩))|(go_at_call 46;refine(zgw ‹_› _ zeu).mono ?_;rintro e w' ⟨v,rfl,hat⟩)|(go_at_call 44;refine(zjH ‹_› zeu).mono ?_;rintro e w' ⟨v,rfl,hat⟩)|(go_at_call 95;first|(with_reducible refine(zfC ‹_› ?hc).mono ?_;(case hc=>simp [Res.comes, *]);rintro e w' ⟨rfl,hat⟩)|(with_reducible refine(zfz ‹_› ?hc).mono ?_;(case hc=>simp [Res.comes, *]);rintro e w' ⟨rfl,hat⟩))|(go_at_call 48;refine(zgW HCL ‹_› zeu).mono ?_;rintro e w' ⟨v,rfl,hat⟩)|(go_at_call 60;first|(refine(zhU ‹_› 1 zdD ‹_›).mono ?_;rintro e w' ⟨rfl,rfl⟩)|(refine(zgQ ‹_› 1 zdD).mono ?_;rintro e w' ⟨rfl,rfl⟩))|(go_at_call 36;refine(zgU ‹_› zeu).mono ?_;rintro e w' ⟨v,rfl,hat⟩)|(go_at_call 49;first|(refine((ih _ ?hk).X _ _ _ _ _ _ ‹_› ‹_›).mono ?_;(case hk=>omega);rintro e w' ⟨v,rfl,hat⟩)|(refine(X_f HCL _ _ _ _ _ _ _ ‹_›).mono ?_;rintro e w' ⟨v,rfl,hat⟩))|(go_at_call 179;first|(refine((ih _ ?hk).cut _ _ _ _ _ _ _ ‹_› zev ‹_›).mono ?_;(case hk=>omega);rintro e w' ⟨v,rfl,hat⟩)|(refine(ziB HCL _ _ _ _ _ _ _ ‹_›).mono ?_;rintro e w' ⟨v,rfl,hat⟩)))
  all_goals(first|(go_roundw;(case rel=>exact(Lq.less zdC ‹_› ‹_› hq).1);(case measure=>exact(Lq.less (n:=n) zdC ‹_› ‹_› hq).2))|(go_end0;exact⟨_,rfl,by assumption⟩)|(go_ret;exact⟨_,rfl,by assumption⟩))):P:=h
theorem zae{P:Prop}(h:P:=by
 go_wp2_with (first|(go_at_call 42;refine(zhG ‹_› zeu).mono ?_;rintro e w' ⟨rfl,hat⟩)|(go_at_call 62;first|(refine(zfE ‹_›).mono ?_;rintro e w' ⟨rfl,rfl⟩)|(refine(zfD ‹_›).mono ?_;rintro e w' ⟨⟨v,rfl⟩,rfl⟩))|(go_at_call 58;first|(refine(zgT ‹_› ‹_›).mono ?_;rintro e w' ⟨rfl,rfl⟩)|(refine(zgN ‹_›).mono ?_;rintro e w' ⟨rfl,rfl⟩))|(go_at_call 32;refine(zfK ‹_› zeu).mono ?_;rintro e w' ⟨v,rfl,hat⟩)|(go_at_call 96;refine(zgP HCL ‹_› zeu).mono ?_;rintro e w' ⟨v,rfl,hat⟩)|(go_at_call 51;first|(refine((ih _ ?hk).type _ _ _ _ _ ‹_› ‹_›).mono ?_;(case hk=>omega);rintro e w' ⟨v,rfl,hat⟩)|(refine(zgo HCL _ _ _ _ _ _ ‹_›).mono ?_;rintro e w' ⟨v,rfl,hat⟩))|(go_at_call 34;refine(zfG ‹_› _ zeu).mono ?_;rintro e w' ⟨rfl,hat⟩)|(go_at_call 38;refine(HCL _ _ _ _ _ _ _ _ ‹_› zev zeu).mono ?_;rintro e w' ⟨v,rfl,hat⟩)|(go_at_call 52;first|(refine((ih _ ?hk).sig _ _ _ _ _ ‹_› ‹_›).mono ?_;(case hk=>omega);rintro e w' ⟨v,rfl,hat⟩)|(refine(zjr HCL _ _ _ _ _ _ ‹_›).mono ?_;rintro e w' ⟨v,rfl,hat⟩))|(go_at_call 97;first|(refine((ih _ ?hk).array _ _ _ _ _ _ _ ‹_› zev ‹_›).mono ?_;(case hk=>omega);rintro e w' ⟨v,rfl,hat⟩)|(refine(zil HCL _ _ _ _ _ _ _ ‹_›).mono ?_;rintro e w' ⟨v,rfl,hat⟩))|(go_at_call 98;first|(refine((ih _ ?hk).items _ _ _ _ _ _ ‹_› ‹_›).mono ?_;(case hk=>omega);rintro e w' ⟨v,rfl,hat⟩)|(refine(ziq HCL _ _ _ _ _ _ _ ‹_›).mono ?_;rintro e w' ⟨v,rfl,hat⟩))|(go_at_call 46;refine(zgw ‹_› _ zeu).mono ?_;rintro e w' ⟨v,rfl,hat⟩)|(go_at_call 44;refine(zjH ‹_› zeu).mono ?_;rintro e w' ⟨v,rfl,hat⟩)|(go_at_call 95;first|(with_reducible refine(zfC ‹_› ?hc).mono ?_;(case hc=>simp [Res.comes, *]);rintro e w' ⟨rfl,hat⟩)|(with_reducible refine(zfz ‹_› ?hc).mono ?_;(case hc=>simp [Res.comes, *]);rintro e w' ⟨rfl,hat⟩))|(go_at_call 48;refine(zgW HCL ‹_› zeu).mono ?_;rintro e w' ⟨v,rfl,hat⟩)|(go_at_call 60;first|(refine(zhU ‹_› 1 zdD ‹_›).mono ?_;rintro e w' ⟨rfl,rfl⟩)|(refine(zgQ ‹_› 1 zdD).mono ?_;rintro e w' ⟨rfl,rfl⟩))|(go_at_call 36;refine(zgU ‹_› zeu).mono ?_;rintro e w' ⟨v,rfl,hat⟩)|(go_at_call 49;first|(refine((ih _ ?hk).X _ _ _ _ _ _ ‹_› ‹_›).mono ?_;(case hk=>omega);rintro e w' ⟨v,rfl,hat⟩)|(refine(X_f HCL _ _ _ _ _ _ _ ‹_›).mono ?_;rintro e w' ⟨v,rfl,hat⟩))|(go_at_call 179;first|(refine((ih _ ?hk).cut _ _ _ _ _ _ _ ‹_› zev ‹_›).mono ?_;(case hk=>omega);rintro e w' ⟨v,rfl,hat⟩)|(refine(ziB HCL _ _ _ _ _ _ _ ‹_›).mono ?_;rintro e w' ⟨v,rfl,hat⟩))|(go_at_call 124;first|(refine((ih _ ?hk).unary _ _ _ _ _ _ ‹_› ‹_›).mono ?_;(case hk=>omega);rintro e w' ⟨v,rfl,hat⟩)|(refine(zhw HCL _ _ _ _ _ _ _ ‹_›).mono ?_;rintro e w' ⟨v,rfl,hat⟩))|(go_at_call 94;first|(refine((ih _ ?hk).binary _ _ _ _ _ _ _ ‹_› ‹_›).mono ?_;(case hk=>omega);rintro e w' ⟨v,rfl,hat⟩)|(refine(zix HCL _ _ _ _ _ _ _ _ ‹_›).mono ?_;rintro e w' ⟨v,rfl,hat⟩))|(go_at_call 125;refine(zhO _ _).mono ?_;rintro e w' ⟨rfl,rfl⟩))
 all_goals(first|(go_roundw;(case rel=>exact(Lq.less zdC ‹_› ‹_› hq).1);(case measure=>exact(Lq.less (n:=n) zdC ‹_› ‹_› hq).2))|(go_end0;exact⟨_,rfl,by assumption⟩)|(go_ret;exact⟨_,rfl,by assumption⟩))):P:=h
theorem zaf{P:Prop}(h:P:=by
 all_goals go_wp2_with (first|(go_at_call 32;refine(zfK ‹_› zeu).mono ?_;rintro e w' ⟨v,rfl,hat⟩)|(go_at_call 36;refine(zgU ‹_› zeu).mono ?_;rintro e w' ⟨v,rfl,hat⟩)|(go_at_call 38;refine(HCL _ _ _ _ _ _ _ _ ‹_› zev zeu).mono ?_;rintro e w' ⟨v,rfl,hat⟩)|(go_at_call 46;refine(zgw ‹_› _ zeu).mono ?_;rintro e w' ⟨v,rfl,hat⟩)|(go_at_call 49;first|(refine((ih _ ?hk).X _ _ _ _ _ _ ‹_› ‹_›).mono ?_;(case hk=>omega);rintro e w' ⟨v,rfl,hat⟩)|(refine(X_f HCL _ _ _ _ _ _ _ ‹_›).mono ?_;rintro e w' ⟨v,rfl,hat⟩))|(go_at_call 34;refine(zfG ‹_› _ zeu).mono ?_;rintro e w' ⟨rfl,hat⟩)|(go_at_call 95;first|(with_reducible refine(zfC ‹_› ?hc).mono ?_;(case hc=>simp [Res.comes, *]);rintro e w' ⟨rfl,hat⟩)|(with_reducible refine(zfz ‹_› ?hc).mono ?_;(case hc=>simp [Res.comes, *]);rintro e w' ⟨rfl,hat⟩)|(with_reducible refine(zho ‹_› ?hc).mono ?_;(case hc=>simp [Res.comes, *]);rintro e w' ⟨rfl,hat⟩)|(with_reducible refine(zhj ‹_› ?hc).mono ?_;(case hc=>simp [Res.comes, *]);rintro e w' ⟨rfl,hat⟩))|(go_at_call 31;refine(zfZ ‹_› zeu).mono ?_;rintro e w' ⟨v,rfl,hat⟩)|(go_at_call 57;first|(refine(zfI ‹_› ‹_›).mono ?_;rintro e w' ⟨rfl,hat⟩)|(refine(zfH ‹_›).mono ?_;rintro e w' ⟨rfl,hat⟩))|(go_at_call 35;refine(zjg ‹_› zeu).mono ?_;rintro e w' ⟨v,rfl,hat⟩)|(go_at_call 139;first|(refine(zgY (ih:=ih _ ?hk) ‹_› ‹_›).mono ?_;(case hk=>omega);rintro e w' ⟨v,rfl,hat⟩)|(refine(zgv _ _ _ _ _ _ ‹_›).mono ?_;rintro e w' ⟨v,rfl,hat⟩))|(go_at_call 37;refine(zfP _ _ _ _ _ _ _ _ ‹_› zev zez zeu).mono ?_;rintro e w' ⟨v,rfl,hat⟩)|(go_at_call 116;refine(znk (n:=0) ‹_› (zgL _ _ _ _ _) (Lib.hid rfl) (fun j hj=>ih j zdC)).mono ?_;rintro e w' ⟨v,rfl,hat⟩)|(go_at_call 61;first|(refine(zfS ‹_›).mono ?_;rintro e w' ⟨rfl,rfl⟩)|(refine(zfQ ‹_›).mono ?_;rintro e w' ⟨⟨v,_,rfl⟩,rfl⟩))|(go_at_call 23;refine(zij _ _ _ _ _ _ ‹_›).mono ?_;rintro e w' ⟨v,rfl,hat⟩)|(go_at_call 84;refine(zhR (n:=0) zdC ‹_› (Lib.hid rfl) (zgL _ _ _ _ _)).mono ?_;rintro e w' ⟨c,rfl,hat⟩)|(go_at_call 63;refine(zhe ‹_›).mono ?_;rintro e w' ⟨rfl,hat⟩)|(go_at_call 119;refine(ziv (n:=n) zdC (fun j hj=>ih j zdC) _ _ _ _ _ _ ‹_› h1 hv).mono ?_;rintro e w' ⟨c,rfl,hat,hct⟩;rcases Bool.eq_false_or_eq_true (decide (1<c)) with hd|hd)|(go_at_call 73;refine(zgF (A:=#[]) (B:=#[]) (g:=fun r=>some r) zmQ zps ‹_› ‹_› (Lib.hid rfl) ‹_›).mono ?_;rintro e w' ⟨v,rfl,hat⟩))
 all_goals(first|go_end0|go_ret)
 all_goals exact⟨_,rfl,by assumption⟩):P:=h
theorem zag{P:Prop}(h:P:=by
 go_enter Tryz.func134,Tryz.ntmps134
 go_wp2_with (first|(go_at_call 146;refine(H2.out _).mono ?_;rintro e W ⟨rfl,hbW⟩;have HF:=Lib.hid ((zgR w (.int .i64 0) (.int .i64 (i:Int)) (.int .i64 ((i:Int)+1)) (.int .i64 0) (.int .i64 (i:Int)) (.int .i64 0)).then hbW);obtain⟨⟨⟨u0,u1,u2,u3,u4,u5,k0,k1,k2,k3,k4,k5⟩,f0,f1,f2,f3,f4,f5⟩,x0,x1,x2,y0,y1,y2,⟨⟨g0,g1,g2⟩,g3,g4,g5⟩,_⟩:=HF.out;clear hbW)|(go_at_call 147;refine(H6.out _).mono ?_;rintro e w' ⟨rfl,rfl⟩)|(go_at_call 148;refine(H7.out _).mono ?_;rintro e w' ⟨rfl,rfl⟩)|(go_at_call 151;refine(HT.out _).mono ?_;rintro e W2 ⟨xx,yy,rfl,hxy,hb2⟩;have HY:=Lib.hid hxy;have HG:=Lib.hid (HF.out.then hb2);clear k0 k1 k2 k3 k4 k5 f0 f1 f2 f3 f4 f5 x0 x1 x2 y0 y1 y2 g0 g1 g2 g3 g4 g5;clear hb2 hxy;obtain⟨⟨⟨u0,u1,u2,u3,u4,u5,k0,k1,k2,k3,k4,k5⟩,f0,f1,f2,f3,f4,f5⟩,x0,x1,x2,y0,y1,y2,⟨⟨g0,g1,g2⟩,g3,g4,g5⟩,_⟩:=HG.out)|(go_at_call 152;refine(HT.out _).mono ?_;rintro e W2 ⟨xx,yy,rfl,hxy,hb2⟩;have HY:=Lib.hid hxy;have HG:=Lib.hid (HF.out.then hb2);clear k0 k1 k2 k3 k4 k5 f0 f1 f2 f3 f4 f5 x0 x1 x2 y0 y1 y2 g0 g1 g2 g3 g4 g5;clear hb2 hxy;obtain⟨⟨⟨u0,u1,u2,u3,u4,u5,k0,k1,k2,k3,k4,k5⟩,f0,f1,f2,f3,f4,f5⟩,x0,x1,x2,y0,y1,y2,⟨⟨g0,g1,g2⟩,g3,g4,g5⟩,_⟩:=HG.out))
 exact bodyPost_ret (ziC Tryz.results134 _ HG.out.six _ _ _ _ _ _ rfl rfl) rfl (Told.same HW.out HY.out (zfU HG.out.below (Nat.le_refl _) _ _ _ _ _ _))):P:=h
theorem zah{P:Prop}(h:P:=by
 go_enter Tryz.func134,Tryz.ntmps134
 go_wp2_with (first|(go_at_call 146;refine(H2.out _).mono ?_;rintro e W ⟨rfl,hbW⟩;have HF:=Lib.hid ((zgR w (.int .i64 0) (.int .i64 (i:Int)) (.int .i64 ((i:Int)+1)) (.int .i64 0) (.int .i64 (i:Int)) (.int .i64 0)).then hbW);obtain⟨⟨⟨u0,u1,u2,u3,u4,u5,k0,k1,k2,k3,k4,k5⟩,f0,f1,f2,f3,f4,f5⟩,x0,x1,x2,y0,y1,y2,⟨⟨g0,g1,g2⟩,g3,g4,g5⟩,_⟩:=HF.out;clear hbW)|(go_at_call 147;refine(H6.out _).mono ?_;rintro e w' ⟨rfl,rfl⟩)|(go_at_call 148;refine(H7.out _).mono ?_;rintro e w' ⟨rfl,rfl⟩))
 have HF1:=Lib.hid (HF.out.set0 (.int .i64 11))
 have e1:((i:Int)+1)=((i+1:Nat):Int):=by omega
 have HF2:=HF1
 rw[e1] at HF2
 clear k0 k1 k2 k3 k4 k5 f0 f1 f2 f3 f4 f5 x0 x1 x2 y0 y1 y2 g0 g1 g2 g3 g4 g5
 go_loopw [] (fun wr=>∃ n:Nat,i<n∧n≤s.size∧Four w wr (.int .i64 11) (.int .i64 (i:Int)) (.int .i64 (n:Int)) (.int .i64 0) (.int .i64 (i:Int)) (.int .i64 0)∧∀ j,i≤j→j<n→∀ h:j<s.data.toList.length,isWd s.data.toList[j]=true) (fun wr=>s.size - (intOf ((wr.cell? ⟨w.heap.size+1+1,2,none⟩).getD undef)).toNat)
 case atStart=>exact⟨i+1,by omega,by omega,HF2.out,fun j g1 g2 h=>by
          obtain rfl:j=i:=by omega
          exact HC.out h⟩
 case round=>
  obtain⟨n,hn1,hn2,hfo,hall⟩:=hrel
  have HR:=Lib.hid hfo
  have HA:=Lib.hid hall
  clear hfo hall HF HF1 HF2 e1
  obtain⟨⟨⟨u0,u1,u2,u3,u4,u5,k0,k1,k2,k3,k4,k5⟩,f0,f1,f2,f3,f4,f5⟩,x0,x1,x2,y0,y1,y2,⟨⟨g0,g1,g2⟩,g3,g4,g5⟩,_⟩:=HR.out
  by_cases hlt2:n<s.size
  ·obtain⟨d,hd⟩:∃ d,s[n]'hlt2=d:=⟨_,rfl⟩
   have hixn:∀ u:World,(Instr.index 9 (.string s) (.int .i64 (n:Int))).run Tryz.prog u=.ok (.int .u8 (d.toNat:Int)) u:=fun u=>by rw[← hd];exact zfJ s _ n rfl hlt2 u
   have HD:Hid (∀ h:n<s.data.toList.length,s.data.toList[n]=d):=Lib.hid (fun _=>by rw[← hd];rfl)
   have dlt:decide ((n:Int)<(s.size:Int))=true:=decide_eq_true zdC
   clear hd
   cases hL:isLt d with
   |true=>
    have H3:=Lib.hid (fun u=>zgf d u)
    rw[hL] at H3
    have HP:Hid (isWd d=true):=Lib.hid (by unfold isWd;rw[hL];rfl)
    clear hL
    go_wp2_with (go_at_call 147;refine(H3.out _).mono ?_;rintro e w' ⟨rfl,rfl⟩)
    go_roundw
    case rel=>exact⟨n+1,by omega,by omega,by have:=HR.out.set2 (.int .i64 ((n+1:Nat):Int));exact this,fun j g1 g2 h=>by
           by_cases e:j=n
           ·subst e;rw[HD.out h];exact HP.out
           ·exact HA.out j g1 zdC h⟩
    case measure=>have e2:=(HR.out.set2 (.int .i64 ((n:Int)+1))).x2;simp only[x2,e2,Option.getD_some,intOf];omega
   |false=>
    have H3:=Lib.hid (fun u=>zgf d u)
    rw[hL] at H3
    have H5:=Lib.hid (fun u=>refDigit_any d u)
    cases hG:isDg d with
    |true=>
     rw[hG] at H5
     have HP:Hid (isWd d=true):=Lib.hid zfe
     clear hL hG
     go_wp2_with (first|(go_at_call 147;refine(H3.out _).mono ?_;rintro e w' ⟨rfl,rfl⟩)|(go_at_call 148;refine(H5.out _).mono ?_;rintro e w' ⟨rfl,rfl⟩))
     go_roundw
     case rel=>exact⟨n+1,by omega,by omega,by have:=HR.out.set2 (.int .i64 ((n+1:Nat):Int));exact this,fun j g1 g2 h=>by
            by_cases e:j=n
            ·subst e;rw[HD.out h];exact HP.out
            ·exact HA.out j g1 zdC h⟩
     case measure=>have e2:=(HR.out.set2 (.int .i64 ((n:Int)+1))).x2;simp only[x2,e2,Option.getD_some,intOf];omega
    |false=>
     rw[hG] at H5
     have HP:Hid (isWd d=false):=Lib.hid zfe
     clear hL hG
     have HE:Hid (i+runL isWd (s.data.toList.drop i)=n):=Lib.hid (zpB zdC zff HA.out zfg)
     have hsl:=zhh s i n (i:Int) (n:Int) rfl rfl zdC zdC
     have HK:=Lib.hid (fun u=>zku (B ((s.data.toList.drop i).take (n - i))) u zfh)
     rw[bdata] at HK
     have hw:runL isWd (s.data.toList.drop i)=n - i:=by have:=HE.out;omega
     have HW3:=HW
     rw[hw] at HW3
     obtain⟨z1,z2,z3,hz⟩:∃ z1 z2 z3,numOf ((s.data.toList.drop i).take (n - i))=(z1,z2,z3):=⟨_,_,_,rfl⟩
     obtain⟨x,hx⟩:∃ x,B ((s.data.toList.drop i).take (n - i))=x:=⟨_,rfl⟩
     rw[hz] at HK HW3
     rw[hx] at HK hsl
     have HE2:Hid ((i:Int)+((n - i:Nat):Int)=(n:Int)):=Lib.hid zdC
     clear hz hx hw HW HE HA
     cases z3 with
     |true=>
      rw[if_pos rfl] at HW3
      go_wp2_with (first|(go_at_call 147;refine(H3.out _).mono ?_;rintro e w' ⟨rfl,rfl⟩)|(go_at_call 148;refine(H5.out _).mono ?_;rintro e w' ⟨rfl,rfl⟩)|(go_at_call 150;refine(HK.out _).mono ?_;rintro e W5 ⟨rfl,hb5⟩;have HG:=Lib.hid (HR.out.then hb5);clear k0 k1 k2 k3 k4 k5 f0 f1 f2 f3 f4 f5 x0 x1 x2 y0 y1 y2 g0 g1 g2 g3 g4 g5;clear hb5;obtain⟨⟨⟨u0,u1,u2,u3,u4,u5,k0,k1,k2,k3,k4,k5⟩,f0,f1,f2,f3,f4,f5⟩,x0,x1,x2,y0,y1,y2,⟨⟨g0,g1,g2⟩,g3,g4,g5⟩,_⟩:=HG.out))
      go_region
      go_wp2_with fail
      exact bodyPost_ret (zfT Tryz.results134 _ zfi (.int .i64 11) (.int .i64 (i:Int)) (.int .i64 (n:Int)) (.int .i64 0) (.int .i64 (i:Int)) (.int .i64 (n:Int)) rfl rfl) rfl (Told.mk' (x:=(i:Int)) (y:=(n:Int)) zfj zfk (zfU zfl (Nat.le_refl _) _ _ _ _ _ _).drew)
     |false=>
      rw[if_neg zdF] at HW3
      go_wp2_with (first|(go_at_call 147;refine(H3.out _).mono ?_;rintro e w' ⟨rfl,rfl⟩)|(go_at_call 148;refine(H5.out _).mono ?_;rintro e w' ⟨rfl,rfl⟩)|(go_at_call 150;refine(HK.out _).mono ?_;rintro e W5 ⟨rfl,hb5⟩;have HG:=Lib.hid (HR.out.then hb5);clear k0 k1 k2 k3 k4 k5 f0 f1 f2 f3 f4 f5 x0 x1 x2 y0 y1 y2 g0 g1 g2 g3 g4 g5;clear hb5;obtain⟨⟨⟨u0,u1,u2,u3,u4,u5,k0,k1,k2,k3,k4,k5⟩,f0,f1,f2,f3,f4,f5⟩,x0,x1,x2,y0,y1,y2,⟨⟨g0,g1,g2⟩,g3,g4,g5⟩,_⟩:=HG.out))
      go_region
      go_wp2_with fail
      exact bodyPost_ret (zfT Tryz.results134 _ zfi (.int .i64 11) (.int .i64 (i:Int)) (.int .i64 (n:Int)) (.int .i64 109) (.int .i64 (i:Int)) (.int .i64 (n:Int)) rfl rfl) rfl (Told.mk' (x:=(i:Int)) (y:=(n:Int)) (by rw[HW3.out];simp only[wrong];rw[HE2.out]) zfm (zfU zfl (Nat.le_refl _) _ _ _ _ _ _).drew)
  ·have dlt:decide ((n:Int)<(s.size:Int))=false:=decide_eq_false zdC
   obtain rfl:n=s.size:=by omega
   have HE:Hid (i+runL isWd (s.data.toList.drop i)=s.size):=Lib.hid zfn
   have hsl:=zhh s i s.size (i:Int) (s.size:Int) rfl rfl zdC zdC
   have HK:=Lib.hid (fun u=>zku (B ((s.data.toList.drop i).take (s.size - i))) u zfh)
   rw[bdata] at HK
   have hw:runL isWd (s.data.toList.drop i)=s.size - i:=by have:=HE.out;omega
   have HW3:=HW
   rw[hw] at HW3
   obtain⟨z1,z2,z3,hz⟩:∃ z1 z2 z3,numOf ((s.data.toList.drop i).take (s.size - i))=(z1,z2,z3):=⟨_,_,_,rfl⟩
   obtain⟨x,hx⟩:∃ x,B ((s.data.toList.drop i).take (s.size - i))=x:=⟨_,rfl⟩
   rw[hz] at HK HW3
   rw[hx] at HK hsl
   have HE2:Hid ((i:Int)+((s.size - i:Nat):Int)=(s.size:Int)):=Lib.hid zdC
   clear hz hx hw HW HE HA
   cases z3 with
   |true=>
    rw[if_pos rfl] at HW3
    go_wp2_with (first|(go_at_call 150;refine(HK.out _).mono ?_;rintro e W5 ⟨rfl,hb5⟩;have HG:=Lib.hid (HR.out.then hb5);clear k0 k1 k2 k3 k4 k5 f0 f1 f2 f3 f4 f5 x0 x1 x2 y0 y1 y2 g0 g1 g2 g3 g4 g5;clear hb5;obtain⟨⟨⟨u0,u1,u2,u3,u4,u5,k0,k1,k2,k3,k4,k5⟩,f0,f1,f2,f3,f4,f5⟩,x0,x1,x2,y0,y1,y2,⟨⟨g0,g1,g2⟩,g3,g4,g5⟩,_⟩:=HG.out))
    go_region
    go_wp2_with fail
    exact bodyPost_ret (zfT Tryz.results134 _ zfi (.int .i64 11) (.int .i64 (i:Int)) (.int .i64 (s.size:Int)) (.int .i64 0) (.int .i64 (i:Int)) (.int .i64 (s.size:Int)) rfl rfl) rfl (Told.mk' (x:=(i:Int)) (y:=(s.size:Int)) zfj zfk (zfU zfl (Nat.le_refl _) _ _ _ _ _ _).drew)
   |false=>
    rw[if_neg zdF] at HW3
    go_wp2_with (first|(go_at_call 150;refine(HK.out _).mono ?_;rintro e W5 ⟨rfl,hb5⟩;have HG:=Lib.hid (HR.out.then hb5);clear k0 k1 k2 k3 k4 k5 f0 f1 f2 f3 f4 f5 x0 x1 x2 y0 y1 y2 g0 g1 g2 g3 g4 g5;clear hb5;obtain⟨⟨⟨u0,u1,u2,u3,u4,u5,k0,k1,k2,k3,k4,k5⟩,f0,f1,f2,f3,f4,f5⟩,x0,x1,x2,y0,y1,y2,⟨⟨g0,g1,g2⟩,g3,g4,g5⟩,_⟩:=HG.out))
    go_region
    go_wp2_with fail
    exact bodyPost_ret (zfT Tryz.results134 _ zfi (.int .i64 11) (.int .i64 (i:Int)) (.int .i64 (s.size:Int)) (.int .i64 109) (.int .i64 (i:Int)) (.int .i64 (s.size:Int)) rfl rfl) rfl (Told.mk' (x:=(i:Int)) (y:=(s.size:Int)) (by rw[HW3.out];simp only[wrong];rw[HE2.out]) zfm (zfU zfl (Nat.le_refl _) _ _ _ _ _ _).drew)):P:=h
theorem zai{P:Prop}(h:P:=by
 go_enter Tryz.func134,Tryz.ntmps134
 go_wp2_with (first|(go_at_call 146;refine(H2.out _).mono ?_;rintro e W ⟨rfl,hbW⟩;have HF:=Lib.hid ((zgR w (.int .i64 0) (.int .i64 (i:Int)) (.int .i64 ((i:Int)+1)) (.int .i64 0) (.int .i64 (i:Int)) (.int .i64 0)).then hbW);obtain⟨⟨⟨u0,u1,u2,u3,u4,u5,k0,k1,k2,k3,k4,k5⟩,f0,f1,f2,f3,f4,f5⟩,x0,x1,x2,y0,y1,y2,⟨⟨g0,g1,g2⟩,g3,g4,g5⟩,_⟩:=HF.out;clear hbW)|(go_at_call 147;refine(H6.out _).mono ?_;rintro e w' ⟨rfl,rfl⟩))
 have HF1:=Lib.hid (HF.out)
 have e1:((i:Int)+1)=((i+1:Nat):Int):=by omega
 have HF2:=HF1
 rw[e1] at HF2
 clear k0 k1 k2 k3 k4 k5 f0 f1 f2 f3 f4 f5 x0 x1 x2 y0 y1 y2 g0 g1 g2 g3 g4 g5
 go_loopw [] (fun wr=>∃ n:Nat,i<n∧n≤s.size∧Four w wr (.int .i64 0) (.int .i64 (i:Int)) (.int .i64 (n:Int)) (.int .i64 0) (.int .i64 (i:Int)) (.int .i64 0)∧∀ j,i≤j→j<n→∀ h:j<s.data.toList.length,isWd s.data.toList[j]=true) (fun wr=>s.size - (intOf ((wr.cell? ⟨w.heap.size+1+1,2,none⟩).getD undef)).toNat)
 case atStart=>exact⟨i+1,by omega,by omega,HF2.out,fun j g1 g2 h=>by
          obtain rfl:j=i:=by omega
          exact HC.out h⟩
 case round=>
  obtain⟨n,hn1,hn2,hfo,hall⟩:=hrel
  have HR:=Lib.hid hfo
  have HA:=Lib.hid hall
  clear hfo hall HF HF1 HF2 e1
  obtain⟨⟨⟨u0,u1,u2,u3,u4,u5,k0,k1,k2,k3,k4,k5⟩,f0,f1,f2,f3,f4,f5⟩,x0,x1,x2,y0,y1,y2,⟨⟨g0,g1,g2⟩,g3,g4,g5⟩,_⟩:=HR.out
  by_cases hlt2:n<s.size
  ·obtain⟨d,hd⟩:∃ d,s[n]'hlt2=d:=⟨_,rfl⟩
   have hixn:∀ u:World,(Instr.index 9 (.string s) (.int .i64 (n:Int))).run Tryz.prog u=.ok (.int .u8 (d.toNat:Int)) u:=fun u=>by rw[← hd];exact zfJ s _ n rfl hlt2 u
   have HD:Hid (∀ h:n<s.data.toList.length,s.data.toList[n]=d):=Lib.hid (fun _=>by rw[← hd];rfl)
   have dlt:decide ((n:Int)<(s.size:Int))=true:=decide_eq_true zdC
   clear hd
   cases hL:isLt d with
   |true=>
    have H3:=Lib.hid (fun u=>zgf d u)
    rw[hL] at H3
    have HP:Hid (isWd d=true):=Lib.hid (by unfold isWd;rw[hL];rfl)
    clear hL
    go_wp2_with (go_at_call 147;refine(H3.out _).mono ?_;rintro e w' ⟨rfl,rfl⟩)
    go_roundw
    case rel=>exact⟨n+1,by omega,by omega,by have:=HR.out.set2 (.int .i64 ((n+1:Nat):Int));exact this,fun j g1 g2 h=>by
           by_cases e:j=n
           ·subst e;rw[HD.out h];exact HP.out
           ·exact HA.out j g1 zdC h⟩
    case measure=>have e2:=(HR.out.set2 (.int .i64 ((n:Int)+1))).x2;simp only[x2,e2,Option.getD_some,intOf];omega
   |false=>
    have H3:=Lib.hid (fun u=>zgf d u)
    rw[hL] at H3
    have H5:=Lib.hid (fun u=>refDigit_any d u)
    cases hG:isDg d with
    |true=>
     rw[hG] at H5
     have HP:Hid (isWd d=true):=Lib.hid zfe
     clear hL hG
     go_wp2_with (first|(go_at_call 147;refine(H3.out _).mono ?_;rintro e w' ⟨rfl,rfl⟩)|(go_at_call 148;refine(H5.out _).mono ?_;rintro e w' ⟨rfl,rfl⟩))
     go_roundw
     case rel=>exact⟨n+1,by omega,by omega,by have:=HR.out.set2 (.int .i64 ((n+1:Nat):Int));exact this,fun j g1 g2 h=>by
            by_cases e:j=n
            ·subst e;rw[HD.out h];exact HP.out
            ·exact HA.out j g1 zdC h⟩
     case measure=>have e2:=(HR.out.set2 (.int .i64 ((n:Int)+1))).x2;simp only[x2,e2,Option.getD_some,intOf];omega
    |false=>
     rw[hG] at H5
     have HP:Hid (isWd d=false):=Lib.hid zfe
     clear hL hG
     have HE:Hid (i+runL isWd (s.data.toList.drop i)=n):=Lib.hid (zpB zdC zff HA.out zfg)
     have hsl:=zhh s i n (i:Int) (n:Int) rfl rfl zdC zdC
     have HK:=Lib.hid (fun u=>zjT (B ((s.data.toList.drop i).take (n - i))) u)
     rw[bdata] at HK
     have hw:runL isWd (s.data.toList.drop i)=n - i:=by have:=HE.out;omega
     have HW3:=HW
     rw[hw] at HW3
     obtain⟨z,hz⟩:∃ z,kwOf ((s.data.toList.drop i).take (n - i))=z:=⟨_,rfl⟩
     obtain⟨x,hx⟩:∃ x,B ((s.data.toList.drop i).take (n - i))=x:=⟨_,rfl⟩
     rw[hz] at HK HW3
     rw[hx] at HK hsl
     have HE2:Hid ((i:Int)+((n - i:Nat):Int)=(n:Int)):=Lib.hid zdC
     clear hz hx hw HW HE HA
     by_cases hz0:z=0
     ·subst hz0
      rw[if_pos rfl] at HW3
      have bz:((0:Int) == 0)=true:=rfl
      go_wp2_with (first|(go_at_call 147;refine(H3.out _).mono ?_;rintro e w' ⟨rfl,rfl⟩)|(go_at_call 148;refine(H5.out _).mono ?_;rintro e w' ⟨rfl,rfl⟩)|(go_at_call 149;refine(HK.out _).mono ?_;rintro e W5 ⟨rfl,hb5⟩;have HG:=Lib.hid (HR.out.then hb5);clear k0 k1 k2 k3 k4 k5 f0 f1 f2 f3 f4 f5 x0 x1 x2 y0 y1 y2 g0 g1 g2 g3 g4 g5;clear hb5;obtain⟨⟨⟨u0,u1,u2,u3,u4,u5,k0,k1,k2,k3,k4,k5⟩,f0,f1,f2,f3,f4,f5⟩,x0,x1,x2,y0,y1,y2,⟨⟨g0,g1,g2⟩,g3,g4,g5⟩,_⟩:=HG.out))
      go_region
      go_wp2_with fail
      exact bodyPost_ret (zfT Tryz.results134 _ zfi (.int .i64 10) (.int .i64 (i:Int)) (.int .i64 (n:Int)) (.int .i64 0) (.int .i64 (i:Int)) (.int .i64 (n:Int)) rfl rfl) rfl (Told.mk' (x:=(i:Int)) (y:=(n:Int)) zfj zfk (zfU zfl (Nat.le_refl _) _ _ _ _ _ _).drew)
     ·rw[if_neg hz0] at HW3
      have bz:(z == 0)=false:=beq_eq_false_iff_ne.2 hz0
      go_wp2_with (first|(go_at_call 147;refine(H3.out _).mono ?_;rintro e w' ⟨rfl,rfl⟩)|(go_at_call 148;refine(H5.out _).mono ?_;rintro e w' ⟨rfl,rfl⟩)|(go_at_call 149;refine(HK.out _).mono ?_;rintro e W5 ⟨rfl,hb5⟩;have HG:=Lib.hid (HR.out.then hb5);clear k0 k1 k2 k3 k4 k5 f0 f1 f2 f3 f4 f5 x0 x1 x2 y0 y1 y2 g0 g1 g2 g3 g4 g5;clear hb5;obtain⟨⟨⟨u0,u1,u2,u3,u4,u5,k0,k1,k2,k3,k4,k5⟩,f0,f1,f2,f3,f4,f5⟩,x0,x1,x2,y0,y1,y2,⟨⟨g0,g1,g2⟩,g3,g4,g5⟩,_⟩:=HG.out))
      go_region
      go_wp2_with fail
      exact bodyPost_ret (zfT Tryz.results134 _ zfi (.int .i64 z) (.int .i64 (i:Int)) (.int .i64 (n:Int)) (.int .i64 0) (.int .i64 (i:Int)) (.int .i64 (n:Int)) rfl rfl) rfl (Told.mk' (x:=(i:Int)) (y:=(n:Int)) zfj zfk (zfU zfl (Nat.le_refl _) _ _ _ _ _ _).drew)
  ·have dlt:decide ((n:Int)<(s.size:Int))=false:=decide_eq_false zdC
   obtain rfl:n=s.size:=by omega
   have HE:Hid (i+runL isWd (s.data.toList.drop i)=s.size):=Lib.hid zfn
   have hsl:=zhh s i s.size (i:Int) (s.size:Int) rfl rfl zdC zdC
   have HK:=Lib.hid (fun u=>zjT (B ((s.data.toList.drop i).take (s.size - i))) u)
   rw[bdata] at HK
   have hw:runL isWd (s.data.toList.drop i)=s.size - i:=by have:=HE.out;omega
   have HW3:=HW
   rw[hw] at HW3
   obtain⟨z,hz⟩:∃ z,kwOf ((s.data.toList.drop i).take (s.size - i))=z:=⟨_,rfl⟩
   obtain⟨x,hx⟩:∃ x,B ((s.data.toList.drop i).take (s.size - i))=x:=⟨_,rfl⟩
   rw[hz] at HK HW3
   rw[hx] at HK hsl
   have HE2:Hid ((i:Int)+((s.size - i:Nat):Int)=(s.size:Int)):=Lib.hid zdC
   clear hz hx hw HW HE HA
   by_cases hz0:z=0
   ·subst hz0
    rw[if_pos rfl] at HW3
    have bz:((0:Int) == 0)=true:=rfl
    go_wp2_with (first|(go_at_call 149;refine(HK.out _).mono ?_;rintro e W5 ⟨rfl,hb5⟩;have HG:=Lib.hid (HR.out.then hb5);clear k0 k1 k2 k3 k4 k5 f0 f1 f2 f3 f4 f5 x0 x1 x2 y0 y1 y2 g0 g1 g2 g3 g4 g5;clear hb5;obtain⟨⟨⟨u0,u1,u2,u3,u4,u5,k0,k1,k2,k3,k4,k5⟩,f0,f1,f2,f3,f4,f5⟩,x0,x1,x2,y0,y1,y2,⟨⟨g0,g1,g2⟩,g3,g4,g5⟩,_⟩:=HG.out))
    go_region
    go_wp2_with fail
    exact bodyPost_ret (zfT Tryz.results134 _ zfi (.int .i64 10) (.int .i64 (i:Int)) (.int .i64 (s.size:Int)) (.int .i64 0) (.int .i64 (i:Int)) (.int .i64 (s.size:Int)) rfl rfl) rfl (Told.mk' (x:=(i:Int)) (y:=(s.size:Int)) zfj zfk (zfU zfl (Nat.le_refl _) _ _ _ _ _ _).drew)
   ·rw[if_neg hz0] at HW3
    have bz:(z == 0)=false:=beq_eq_false_iff_ne.2 hz0
    go_wp2_with (first|(go_at_call 149;refine(HK.out _).mono ?_;rintro e W5 ⟨rfl,hb5⟩;have HG:=Lib.hid (HR.out.then hb5);clear k0 k1 k2 k3 k4 k5 f0 f1 f2 f3 f4 f5 x0 x1 x2 y0 y1 y2 g0 g1 g2 g3 g4 g5;clear hb5;obtain⟨⟨⟨u0,u1,u2,u3,u4,u5,k0,k1,k2,k3,k4,k5⟩,f0,f1,f2,f3,f4,f5⟩,x0,x1,x2,y0,y1,y2,⟨⟨g0,g1,g2⟩,g3,g4,g5⟩,_⟩:=HG.out))
    go_region
    go_wp2_with fail
    exact bodyPost_ret (zfT Tryz.results134 _ zfi (.int .i64 z) (.int .i64 (i:Int)) (.int .i64 (s.size:Int)) (.int .i64 0) (.int .i64 (i:Int)) (.int .i64 (s.size:Int)) rfl rfl) rfl (Told.mk' (x:=(i:Int)) (y:=(s.size:Int)) zfj zfk (zfU zfl (Nat.le_refl _) _ _ _ _ _ _).drew)):P:=h
theorem zaj{P:Prop}(h:P:=by
 rw[Bool.true_and] at hfin
 have HFN:=Lib.hid hfin
 clear hfin
 go_wp2_with (first|(at_builtin;refine Lib.wpList_append_run _ rfl _ _ _ _ rfl _ _ rfl rfl _ _ (HRT.out _) ?_)|(at_builtin;refine Lib.wpList_append_run _ rfl _ _ _ _ rfl _ _ rfl rfl _ _ (HRN.out _) ?_)|(go_at_call 95;with_reducible refine(zfz ‹_› zex).mono ?_;rintro e w' ⟨rfl,hat⟩;have hc8:=zft _ _ _ _ hat;rw[zfw] at hc8;have HROW4:=zgJ HROW4 ‹_› hat))
 go_loopw [8] (fun p wr=>∃ i:Nat,i≤lf.length∧p=.int .i64 (i:Int)∧unfit s2.R (lf.drop i)=unfit s2.R lf∧Hid (At C4 wr b (.ok s2))∧Hid (Held C4 wr B vF1 it (lf.map fun e=>(e.a:Int))∧Held C4 wr B vT1 it (lf.map fun e=>(e.b:Int))∧Held C4 wr B vN1 bl (lf.map Ent.is))) (fun p _=>lf.length - (intOf p).toNat)
 case atStart=>exact⟨0,Nat.zero_le _,rfl,rfl,by assumption,by assumption⟩
 case round=>
  clear hat HROW4
  obtain⟨i,hil,rfl,hun,hat,HROW4⟩:=hrel
  have HUN:=Lib.hid hun
  clear hun
  have hll:lf.length≤1099511627776:=by omega
  by_cases hlt:i<lf.length
  ·obtain⟨gF,oF,cF,hvF,hoF,_⟩:=HROW4.out.1.mine.shape
   obtain⟨gN,oN,cN,hvN,hoN,_⟩:=HROW4.out.2.2.mine.shape
   rw[List.length_map] at hvF hvN
   have hoF:=hoF zeG
   have hoN:=hoN zeG
   subst hoF
   subst hoN
   have HROW2:=HROW4
   subst hvF
   subst hvN
   have cF0:=zgh HROW4.out.1.mine.cells i zeH
   have cN0:=ziX HROW4.out.2.2.mine.cells i zeH
   rw[List.getElem_map,Nat.zero_add] at cF0 cN0
   rw[List.drop_eq_getElem_cons hlt,unfit] at HUN
   obtain⟨en,hen⟩:∃ en,lf[i]=en:=⟨_,rfl⟩
   rw[hen] at cF0 cN0 HUN
   have hemp:(lf.drop (i+1)).isEmpty=decide (i+1=lf.length):=by
    rw[Bool.eq_iff_iff,List.isEmpty_iff,List.drop_eq_nil_iff,decide_eq_true_iff]
    omega
   rw[hemp] at HUN
   obtain⟨ea,eb,eis⟩:=en
   simp only[] at cF0 cN0 HUN
   obtain⟨len,hlen⟩:∃ len,lf.length=len:=⟨_,rfl⟩
   have HLN:=Lib.hid hlen
   rw[hlen] at hlt hil hll HUN HROW4 ⊢
   have hd:decide ((i:Int)<(len:Int))=true:=decide_eq_true zdC
   have hd':decide (i<len)=true:=decide_eq_true hlt
   have hq0:(0:Int)≤(i:Int):=by omega
   have hiN:i<(lf.map Ent.is).length:=by rw[List.length_map,HLN.out];exact hlt
   have hgN:(lf.map Ent.is)[i]=eis:=by rw[List.getElem_map,hen]
   have HCN:Hid (∀ u,Hid (At C4 u b (.ok s2))→u.cell? ⟨gN,i,none⟩=some (.bool eis)∧gN<u.heap.size):=Lib.hid (fun u hu=>by
    have hh:=HROW4.out.2.2.call hat.out hu.out
    have:=ziX hh.mine.cells i hiN
    rw[hgN,Nat.zero_add] at this
    exact⟨this,hh.mine.lt gN rfl⟩)
   clear hen hlen hemp HROW2 hiN hgN hoF hoN
   obtain⟨kk,hkk⟩:∃ kk,(headT (s2.R.drop ea)).k=kk:=⟨_,rfl⟩
   rw[hkk] at HUN
   have HKK:=Lib.hid hkk
   clear hkk
   have go:(eis=true∨(i+1≠len∧kk=201))∨(eis=false∧(i+1=len∨kk≠201)):=by
    cases eis
    ·by_cases h1:i+1=len
     ·exact .inr ⟨rfl,.inl h1⟩
     ·by_cases h2:kk=201
      ·exact .inl (.inr ⟨h1,h2⟩)
      ·exact .inr ⟨rfl,.inr h2⟩
    ·exact .inl (.inl rfl)
   rcases go with go|⟨rfl,go⟩
   ·have HU2:Hid (unfit s2.R (lf.drop (i+1))=unfit s2.R lf):=Lib.hid (by
     rw[← HUN.out]
     rcases go with rfl|⟨h1,rfl⟩
     ·simp
     ·rw[decide_eq_false h1];simp)
    clear HUN
    have fin:∀ u,Hid (At C4 u b (.ok s2))→∃ i':Nat,i'≤len∧Value.int .i64 ((i:Int)+1)=.int .i64 (i':Int)∧unfit s2.R (lf.drop i')=unfit s2.R lf∧Hid (At C4 u b (.ok s2))∧Hid (Held C4 u B (.slice (some ⟨gF,0,none⟩) len cF) it (lf.map fun e=>(e.a:Int))∧Held C4 u B vT1 it (lf.map fun e=>(e.b:Int))∧Held C4 u B (.slice (some ⟨gN,0,none⟩) len cN) bl (lf.map Ent.is)):=fun u hu=>⟨i+1,by omega,by go_num,HU2.out,hu,zgJ HROW4 hat hu⟩
    have FIN:=Lib.hid fin
    clear fin
    rcases go with rfl|⟨h1,rfl⟩
    ·go_wp2_with (go_at_call 106;refine(zgx ‹_› _).mono ?_;rintro e w2 ⟨⟨k',i',j',o',m',c'⟩,rfl,hat2,hti⟩;have hk':=(TieB.k hti).trans HKK.out;obtain⟨cN1,gN1⟩:=HCN.out _ hat2;have hbz2:=hat2.out.at;rw[show(Rn.mk k' i' j' o' m' c').v=.agg #[.int .i64 k',.int .i64 i',.int .i64 j',.slice o' m' c'] from rfl];obtain rfl:k'=_:=hk';clear hti)
     all_goals go_roundw
     all_goals first|exact FIN.out _ (At.alloc ‹_› _)|(simp only[intOf];omega)
    ·cases eis
     ·have hq1:((i:Int) == (len:Int) - 1)=false:=beq_eq_false_iff_ne.2 zdC
      go_wp2_with (go_at_call 106;refine(zgx ‹_› _).mono ?_;rintro e w2 ⟨⟨k',i',j',o',m',c'⟩,rfl,hat2,hti⟩;have hk':=(TieB.k hti).trans HKK.out;obtain⟨cN1,gN1⟩:=HCN.out _ hat2;have hbz2:=hat2.out.at;rw[show(Rn.mk k' i' j' o' m' c').v=.agg #[.int .i64 k',.int .i64 i',.int .i64 j',.slice o' m' c'] from rfl];obtain rfl:k'=_:=hk';clear hti)
      all_goals go_roundw
      all_goals first|exact FIN.out _ (At.alloc ‹_› _)|(simp only[intOf];omega)
     ·go_wp2_with (go_at_call 106;refine(zgx ‹_› _).mono ?_;rintro e w2 ⟨⟨k',i',j',o',m',c'⟩,rfl,hat2,hti⟩;have hk':=(TieB.k hti).trans HKK.out;obtain⟨cN1,gN1⟩:=HCN.out _ hat2;have hbz2:=hat2.out.at;rw[show(Rn.mk k' i' j' o' m' c').v=.agg #[.int .i64 k',.int .i64 i',.int .i64 j',.slice o' m' c'] from rfl];obtain rfl:k'=_:=hk';clear hti)
      all_goals go_roundw
      all_goals first|exact FIN.out _ (At.alloc ‹_› _)|(simp only[intOf];omega)
   ·have HU2:Hid (unfit s2.R lf=true):=Lib.hid (by
     rw[← HUN.out]
     rcases go with h1|h1
     ·rw[decide_eq_true h1];simp
     ·simp [h1])
    have hfail:=HFN.out.1 HU2.out
    clear HUN HFN
    by_cases h1:i+1=len
    ·have hq1:((i:Int) == (len:Int) - 1)=true:=beq_iff_eq.2 zdC
     clear go
     go_wp2_with (first|(at_builtin;refine Lib.wpList_append_run _ rfl _ _ _ _ rfl _ _ rfl rfl _ _ (HRT.out _) ?_)|(at_builtin;refine Lib.wpList_append_run _ rfl _ _ _ _ rfl _ _ rfl rfl _ _ (HRN.out _) ?_)|(go_at_call 95;with_reducible refine(zfz ‹_› zex).mono ?_;rintro e w' ⟨rfl,hat⟩;have hc8:=zft _ _ _ _ hat;rw[zfv] at hc8)|(go_at_call 106;refine(zgx ‹_› _).mono ?_;rintro e w2 ⟨⟨k',i',j',o',m',c'⟩,rfl,hat2,hti⟩;have hk':=(TieB.k hti).trans HKK.out;obtain⟨cN1,gN1⟩:=HCN.out _ hat2;have hbz2:=hat2.out.at;rw[show(Rn.mk k' i' j' o' m' c').v=.agg #[.int .i64 k',.int .i64 i',.int .i64 j',.slice o' m' c'] from rfl];obtain rfl:k'=kk:=hk';clear hti)|(go_at_call 46;refine(zgw (At.alloc hat2 _) _ hfail).mono ?_;rintro e w3 ⟨v,rfl,hat⟩))
     all_goals(first|go_end0|go_ret)
     all_goals exact⟨_,rfl,Lib.hid (At.back HX4.out hat.out HZ)⟩
    ·have hq1:((i:Int) == (len:Int) - 1)=false:=beq_eq_false_iff_ne.2 zdC
     have h2:kk≠201:=by rcases go with h|h;exact absurd h h1;exact h
     have hq2:(kk == 201)=false:=beq_eq_false_iff_ne.2 h2
     clear go h1 h2
     go_wp2_with (first|(at_builtin;refine Lib.wpList_append_run _ rfl _ _ _ _ rfl _ _ rfl rfl _ _ (HRT.out _) ?_)|(at_builtin;refine Lib.wpList_append_run _ rfl _ _ _ _ rfl _ _ rfl rfl _ _ (HRN.out _) ?_)|(go_at_call 95;with_reducible refine(zfz ‹_› zex).mono ?_;rintro e w' ⟨rfl,hat⟩;have hc8:=zft _ _ _ _ hat;rw[zfv] at hc8)|(go_at_call 106;refine(zgx ‹_› _).mono ?_;rintro e w2 ⟨⟨k',i',j',o',m',c'⟩,rfl,hat2,hti⟩;have hk':=(TieB.k hti).trans HKK.out;obtain⟨cN1,gN1⟩:=HCN.out _ hat2;have hbz2:=hat2.out.at;rw[show(Rn.mk k' i' j' o' m' c').v=.agg #[.int .i64 k',.int .i64 i',.int .i64 j',.slice o' m' c'] from rfl];obtain rfl:k'=kk:=hk';clear hti)|(go_at_call 46;refine(zgw (At.alloc hat2 _) _ hfail).mono ?_;rintro e w3 ⟨v,rfl,hat⟩))
     all_goals(first|go_end0|go_ret)
     all_goals exact⟨_,rfl,Lib.hid (At.back HX4.out hat.out HZ)⟩
  ·have hd:decide ((i:Int)<(lf.length:Int))=false:=decide_eq_false zdC
   have hd':decide (i<lf.length)=false:=decide_eq_false hlt
   rw[List.drop_of_length_le zdC,unfit] at HUN
   obtain⟨g1,hg1,g2,hg2,hfin⟩:=HFN.out.2 HUN.out.symm
   obtain⟨gN,oN,cN,hvN,_,_⟩:=HROW4.out.2.2.mine.shape
   rw[List.length_map] at hvN
   subst hvN
   clear HUN HFN
   go_wp2_with (first|(at_builtin;refine Lib.wpList_append_run _ rfl _ _ _ _ rfl _ _ rfl rfl _ _ (HRT.out _) ?_)|(at_builtin;refine Lib.wpList_append_run _ rfl _ _ _ _ rfl _ _ rfl rfl _ _ (HRN.out _) ?_)|(go_at_call 95;with_reducible refine(zfz ‹_› zex).mono ?_;rintro e w' ⟨rfl,hat⟩;have hc8:=zft _ _ _ _ hat;rw[zfw] at hc8;have HROW4:=zgJ HROW4 ‹_› hat)|(go_at_call 107;refine(HG _ _ _ _ _ _ _ _ _ _ _ ‹_› (Lib.hid HROW4.out.1) (Lib.hid HROW4.out.2.1) (Lib.hid HROW4.out.2.2) hwf hfew hg1).mono ?_;rintro e w' ⟨v,rfl,hat⟩)|(go_at_call 34;refine(zfG ‹_› _ zeF).mono ?_;rintro e w' ⟨rfl,hat⟩)|(go_at_call 38;refine(HCL _ _ _ _ _ _ _ _ ‹_› (fun _=>rfl) zeF).mono ?_;rintro e w' ⟨v,rfl,hat⟩))
   go_end0
   exact⟨_,rfl,Lib.hid (At.back HX4.out hat.out HZ)⟩):P:=h
theorem zak{P:Prop}(h:P:=by
 all_goals go_wp2_with (first|(go_at_call 62;first|(refine(zfE ‹_›).mono ?_;rintro e w' ⟨rfl,rfl⟩)|(refine(zfD ‹_›).mono ?_;rintro e w' ⟨⟨v,rfl⟩,rfl⟩))|(go_at_call 48;refine(zgW HCL ‹_› zew).mono ?_;rintro e w' ⟨v,rfl,hat⟩)|(go_at_call 52;first|(refine((ih _ ?hk).sig _ _ _ _ _ ‹_› ‹_›).mono ?_;(case hk=>omega);rintro e w' ⟨v,rfl,hat⟩)|(refine(zjr HCL _ _ _ _ _ _ ‹_›).mono ?_;rintro e w' ⟨v,rfl,hat⟩))|(go_at_call 38;refine(HCL _ _ _ _ _ _ _ _ ‹_› zev zew).mono ?_;rintro e w' ⟨v,rfl,hat⟩)|(go_at_call 95;first|(with_reducible refine(zfC ‹_› ?hc).mono ?_;(case hc=>simp [Res.comes, *]);rintro e w' ⟨rfl,hat⟩)|(with_reducible refine(zfz ‹_› ?hc).mono ?_;(case hc=>simp [Res.comes, *]);rintro e w' ⟨rfl,hat⟩))|(go_at_call 60;first|(refine(zhU ‹_› 1 zdD ‹_›).mono ?_;rintro e w' ⟨rfl,rfl⟩)|(refine(zgQ ‹_› 1 zdD).mono ?_;rintro e w' ⟨rfl,rfl⟩))|(go_at_call 108;first|(refine((ih _ ?hk).union _ _ _ _ _ _ ‹_› ‹_› ‹_›).mono ?_;(case hk=>omega);rintro e w' ⟨c,t,rfl,hat,hct⟩)|(refine(zmE HCL _ _ _ _ _ _ ‹_›).mono ?_;rintro e w' ⟨c,t,rfl,hat⟩))|(go_at_call 31;refine(zfZ ‹_› zeu).mono ?_;rintro e w' ⟨v,rfl,hat⟩)|(go_at_call 57;first|(refine(zfI ‹_› ‹_›).mono ?_;rintro e w' ⟨rfl,hat⟩)|(refine(zfH ‹_›).mono ?_;rintro e w' ⟨rfl,hat⟩))|(go_at_call 35;refine(zjg ‹_› zeu).mono ?_;rintro e w' ⟨v,rfl,hat⟩)|(go_at_call 139;(refine(zgv _ _ _ _ _ _ ‹_›).mono ?_;rintro e w' ⟨v,rfl,hat⟩))|(go_at_call 37;refine(zfP _ _ _ _ _ _ _ _ ‹_› zev zez zeu).mono ?_;rintro e w' ⟨v,rfl,hat⟩)|(go_at_call 116;refine(zsV _ _ _ _ _ _ ‹_›).mono ?_;rintro e w' ⟨v,rfl,hat⟩)|(go_at_call 61;first|(refine(zfS ‹_›).mono ?_;rintro e w' ⟨rfl,rfl⟩)|(refine(zfQ ‹_›).mono ?_;rintro e w' ⟨⟨v,_,rfl⟩,rfl⟩))|(go_at_call 63;refine(zhe ‹_›).mono ?_;rintro e w' ⟨rfl,hat⟩)|(go_at_call 119;refine(ziv (n:=n) zdC (fun j hj=>ih j zdC) _ _ _ _ _ _ ‹_› h1 hv).mono ?_;rintro e w' ⟨c,rfl,hat,hct⟩;have hd:=hct rfl;rw[e26] at hd)|((go_at_call 23;first|(refine((ih _ ?hk).type _ _ _ _ _ ‹_› ‹_›).mono ?_;(case hk=>omega);rintro e w' ⟨v,rfl,hat⟩)|(refine(zij _ _ _ _ _ _ ‹_›).mono ?_;rintro e w' ⟨v,rfl,hat⟩));have hc:=HBX.out _ _ hat)|((go_at_call 33;refine(zfO ‹_› _ zeu).mono ?_;rintro e w' ⟨rfl,hat⟩);have hc:=HBX.out _ _ hat))
 all_goals(first|go_end0|go_ret)
 all_goals exact⟨_,rfl,by assumption⟩):P:=h
theorem zal{P:Prop}(h:P:=by
 go_wp2_with (first|(go_at_call 32;refine(zfK ‹_› zeu).mono ?_;rintro e w' ⟨v,rfl,hat⟩)|(go_at_call 36;refine(zgU ‹_› zeu).mono ?_;rintro e w' ⟨v,rfl,hat⟩)|(go_at_call 49;refine(X_f HCL _ _ _ _ _ _ _ ‹_›).mono ?_;rintro e w' ⟨v,rfl,hat⟩)|(go_at_call 46;refine(zgw ‹_› _ zeu).mono ?_;rintro e w' ⟨v,rfl,hat⟩)|(go_at_call 34;refine(zfG ‹_› _ zeu).mono ?_;rintro e w' ⟨rfl,hat⟩)|(go_at_call 38;refine(HCL _ _ _ _ _ _ _ _ ‹_› zev zeu).mono ?_;rintro e w' ⟨v,rfl,hat⟩)|(go_at_call 95;first|(with_reducible refine(zfz ‹_› zet).mono ?_;rintro e w' ⟨rfl,hat⟩)|(with_reducible refine(zhj ‹_› zet).mono ?_;rintro e w' ⟨rfl,hat⟩))|(go_at_call 31;refine(zfZ ‹_› zeu).mono ?_;rintro e w' ⟨v,rfl,hat⟩)|(go_at_call 57;first|(refine(zfI ‹_› ‹_›).mono ?_;rintro e w' ⟨rfl,hat⟩)|(refine(zfH ‹_›).mono ?_;rintro e w' ⟨rfl,hat⟩))|(go_at_call 139;(refine(zgv _ _ _ _ _ _ ‹_›).mono ?_;rintro e w' ⟨v,rfl,hat⟩))|(go_at_call 83;first|(refine(zfX ‹_› ‹_› zeu).mono ?_;rintro e w' ⟨rfl,hat⟩)|(refine(zgb ‹_› ?hno).mono ?_;(case hno=>first|assumption|rfl|simp [*]);rintro e w' ⟨rfl,hat⟩))|(go_at_call 33;refine(zfO ‹_› _ zeu).mono ?_;rintro e w' ⟨rfl,hat⟩)|(go_at_call 37;refine(zfP _ _ _ _ _ _ _ _ ‹_› zev zez zeu).mono ?_;rintro e w' ⟨v,rfl,hat⟩)|(go_at_call 177;(refine(zhy _ _ _ _ _ _ ‹_›).mono ?_;rintro e w' ⟨v,rfl,hat⟩))|(go_at_call 62;first|(refine(zfE ‹_›).mono ?_;rintro e w' ⟨rfl,rfl⟩)|(refine(zfD ‹_›).mono ?_;rintro e w' ⟨⟨v,rfl⟩,rfl⟩))|(go_at_call 160;refine(zgG HCL _ _ _ _ _ _ ‹_›).mono ?_;rintro e w' ⟨v,rfl,hat⟩;have hc8:=zft _ _ _ _ hat;simp only[Res.bad] at hc8)|(go_at_call 41;refine(zim (by first|assumption|exact CAt.alloc ‹_› _) zeu).mono ?_;rintro e w' ⟨rfl,hat⟩))
 all_goals(first|go_end0|go_ret)
 all_goals exact⟨_,rfl,by assumption⟩):P:=h
theorem zam{P:Prop}(h:P:=by
 go_wp2_with (first|(go_at_call 61;first|(refine(zfS ‹_›).mono ?_;rintro e w' ⟨rfl,rfl⟩)|(refine(zfQ ‹_›).mono ?_;rintro e w' ⟨⟨v,_,rfl⟩,rfl⟩))|(go_at_call 57;first|(refine(zfI ‹_› ‹_›).mono ?_;rintro e w' ⟨rfl,hat⟩)|(refine(zfH ‹_›).mono ?_;rintro e w' ⟨rfl,hat⟩))|(go_at_call 113;first|(refine((ih _ ?hk).unary _ _ _ _ _ _ ‹_› ‹_›).mono ?_;(case hk=>omega);rintro e w' ⟨v,rfl,hat⟩)|(refine(zhk _ _ _ _ _ _ _ ‹_›).mono ?_;rintro e w' ⟨v,rfl,hat⟩))|(go_at_call 31;refine(zfZ ‹_› zeu).mono ?_;rintro e w' ⟨v,rfl,hat⟩)|(go_at_call 71;first|(refine((ih _ ?hk).binary _ _ _ _ _ _ _ ‹_› ‹_›).mono ?_;(case hk=>omega);rintro e w' ⟨v,rfl,hat⟩)|(refine(zhD _ _ _ _ _ _ _ _ ‹_›).mono ?_;rintro e w' ⟨v,rfl,hat⟩))|(go_at_call 37;refine(zfP _ _ _ _ _ _ _ _ ‹_› zev zez zeu).mono ?_;rintro e w' ⟨v,rfl,hat⟩)|(go_at_call 114;refine(zhX _ _).mono ?_;rintro e w' ⟨rfl,rfl⟩)|(go_at_call 139;first|(refine(zgY (ih:=ih _ ?hk) ‹_› ‹_›).mono ?_;(case hk=>omega);rintro e w' ⟨v,rfl,hat⟩)|(refine(zgv _ _ _ _ _ _ ‹_›).mono ?_;rintro e w' ⟨v,rfl,hat⟩))|(go_at_call 83;first|(refine(zfX ‹_› ‹_› zeu).mono ?_;rintro e w' ⟨rfl,hat⟩)|(refine(zgb ‹_› ?hno).mono ?_;(case hno=>first|assumption|rfl|simp [*]);rintro e w' ⟨rfl,hat⟩))|(go_at_call 33;refine(zfO ‹_› _ zeu).mono ?_;rintro e w' ⟨rfl,hat⟩)|(go_at_call 177;first|(refine(ziw ‹_› ‹_› ‹_› (fun j hj=>ih j zdC)).mono ?_;rintro e w' ⟨v,rfl,hat⟩)|(refine(zhy _ _ _ _ _ _ ‹_›).mono ?_;rintro e w' ⟨v,rfl,hat⟩)))
 all_goals(first|(go_roundw;(case rel=>exact(Mq.less zdC ‹_› ‹_› hq).1);(case measure=>exact(Mq.less (n:=n) zdC ‹_› ‹_› hq).2))|(go_end0;exact⟨_,rfl,by assumption⟩)|(go_ret;exact⟨_,rfl,by assumption⟩))):P:=h
theorem zan{P:Prop}(h:P:=by
 go_wp2_with (first|(go_at_call 32;refine(zfK ‹_› zeu).mono ?_;rintro e w' ⟨v,rfl,hat⟩)|(go_at_call 48;refine(zpp HCL _ _ _ _ _ _ ‹_›).mono ?_;rintro e w' ⟨v,rfl,hat⟩)|(go_at_call 38;refine(HCL _ _ _ _ _ _ _ _ ‹_› zev zeu).mono ?_;rintro e w' ⟨v,rfl,hat⟩)|(go_at_call 51;refine(zgo HCL _ _ _ _ _ _ ‹_›).mono ?_;rintro e w' ⟨v,rfl,hat⟩)|(go_at_call 34;refine(zfG ‹_› _ zeu).mono ?_;rintro e w' ⟨rfl,hat⟩)|(go_at_call 46;refine(zgw ‹_› _ zeu).mono ?_;rintro e w' ⟨v,rfl,hat⟩)|(go_at_call 95;first|(with_reducible refine(zfz ‹_› zet).mono ?_;rintro e w' ⟨rfl,hat⟩))|(go_at_call 49;refine(X_f HCL _ _ _ _ _ _ _ ‹_›).mono ?_;rintro e w' ⟨v,rfl,hat⟩)|(go_at_call 179;refine(ziB HCL _ _ _ _ _ _ _ ‹_›).mono ?_;rintro e w' ⟨v,rfl,hat⟩)|(go_at_call 62;first|(refine(zfE ‹_›).mono ?_;rintro e w' ⟨rfl,rfl⟩)|(refine(zfD ‹_›).mono ?_;rintro e w' ⟨⟨v,rfl⟩,rfl⟩))|(go_at_call 108;refine(zmE HCL _ _ _ _ _ _ ‹_›).mono ?_;rintro e w' ⟨c,t,rfl,hat⟩)|(go_at_call 57;first|(refine(zfI ‹_› ‹_›).mono ?_;rintro e w' ⟨rfl,hat⟩)|(refine(zfH ‹_›).mono ?_;rintro e w' ⟨rfl,hat⟩))|(go_at_call 139;refine(zgv _ _ _ _ _ _ ‹_›).mono ?_;rintro e w' ⟨v,rfl,hat⟩))
 all_goals(first|go_end0|go_ret)
 all_goals exact⟨_,rfl,by assumption⟩):P:=h
theorem zao{P:Prop}(h:P:=by
 go_loop [8,9] (fun out i=>∃ (k:Nat) (d:List UInt8) (a:Bool),k≤y.size∧i=.int .i64 k∧out=.string (B d)∧jTo base y.data.toList k=some (d,a)∧Side y.data.toList k a) (fun _ i=>y.size - (intOf i).toNat)
 case atStart=>exact⟨0,[],true,Nat.zero_le _,rfl,rfl,rfl,Side.zero _⟩
 case round=>
  obtain⟨k,d,a,hk,rfl,rfl,hj,hside⟩:=hrel
  have hsd:=sdata y
  have hf:=zqU k d a zdC hj
  have HJ:=Lib.hid hj
  have HS:=Lib.hid hside
  have hbd:(B d).size≤16777216:=by rw[bsize];omega
  clear hj hside
  have HD:=Lib.hid hsd
  clear hsd
  by_cases hlt:k<y.size
  ·have HN:=Lib.hid (zkj (base:=base) (l:=y.data.toList) (k:=k) zdS)
   obtain⟨c,hc⟩:∃ c,y[k]'hlt=c:=⟨_,rfl⟩
   have hsl:=zjG y k hlt c hc
   have HC:=Lib.hid hc
   rw[zfY hlt,hc,HJ.out] at HN
   have hc0:(0:Int)≤(c.toNat:Int):=by omega
   have hc1:(c.toNat:Int)≤255:=by have:=UInt8.toNat_lt c;omega
   obtain⟨z,hz⟩:∃ z,digZ (c.toNat:Int) 99=z:=⟨_,rfl⟩
   have HZ:=Lib.hid hz
   have HI:Hid (isDig base c=decide (z<base)):=Lib.hid (by rw[isDig,← hz];exact decide_eq_decide.2 (zmS _ 16 99 base zdC zdC hb))
   clear hz
   by_cases h95:c=95
   ·have hcz:((c.toNat:Int) == 95)=true:=zfM (d:=95) h95
    have hz99:z=99:=by rw[← HZ.out,h95];rfl
    have hdd:decide (z<base)=false:=decide_eq_false zdC
    have hdd':decide (base≤z)=true:=decide_eq_true zdC
    rw[hdd] at HI
    by_cases hk0:0<k
    ·have hd0:decide ((0:Int)<(k:Int))=true:=decide_eq_true zdC
     obtain⟨p,hp⟩:∃ p,y[k - 1]' zdC=p:=⟨_,rfl⟩
     have hix:∀ u:World,(Instr.index 9 (.string y) (.int .i64 ((k:Int) - 1))).run Tryz.prog u=.ok (.int .u8 (p.toNat:Int)) u:=fun u=>by
      rw[← hp];exact zfJ y _ (k - 1) zdC zdC u
     have ha:=HS.out.prev hk0 zdS
     rw[zfY (s:=y) (i:=k - 1) zdC,hp] at ha
     by_cases hp95:p=95
     ·have hpz:((p.toNat:Int) != 95)=false:=zhm (d:=95) hp95
      have hat:a=true:=ha.2 hp95
      have HR0:Hid (rowed base y.data.toList=([],false)):=Lib.hid (zks (znc zdS (show jTo base y.data.toList (k+1)=none by rw[HN.out,jStep,HI.out,if_neg zdF,if_neg (by rw[hat];simp)])))
      clear h95 HN ha hp95 hat hp
      go_wp2_with (go_at_call 184;refine(refDigit_any _ _ hc0 hc1).mono ?_;rintro e w' ⟨rfl,rfl⟩;rw[HZ.out])
      go_ret2
      exact⟨by rw[HR0.out];rfl,rfl⟩
     ·have hpz:((p.toNat:Int) != 95)=true:=zhf (d:=95) hp95
      have haf:a=false:=by cases a with|false=>rfl|true=>exact absurd (ha.1 rfl) hp95
      have HR0:Hid (jTo base y.data.toList (k+1)=some (d,true)):=Lib.hid (by rw[HN.out,jStep,HI.out,if_neg zdF,if_pos ⟨h95,haf⟩])
      clear HN ha hp95 haf hp
      by_cases hend:k+1<y.size
      ·have he:decide ((k:Int)+1<(y.size:Int))=true:=decide_eq_true zdC
       have HS1:Hid (Side y.data.toList (k+1) true):=Lib.hid (Side.step zdS (by rw[zfY hlt,HC.out];exact⟨fun _=>h95,fun _=>rfl⟩) (fun _=>by have:=HD.out;omega))
       clear h95
       go_wp2_with fail
       go_round
       case rel=>exact⟨k+1,d,true,by omega,by go_num,rfl,HR0.out,HS1.out⟩
       case measure=>simp [intOf];omega
      ·have he:decide ((k:Int)+1<(y.size:Int))=false:=decide_eq_false zdC
       have HR1:Hid (rowed base y.data.toList=([],false)):=Lib.hid (zjQ (d:=d) (by rw[HD.out,show y.size=k+1 by omega];exact HR0.out))
       clear h95
       go_wp2_with (go_at_call 184;refine(refDigit_any _ _ hc0 hc1).mono ?_;rintro e w' ⟨rfl,rfl⟩;rw[HZ.out])
       go_ret2
       exact⟨by rw[HR1.out];rfl,rfl⟩
    ·have hd0:decide ((0:Int)<(k:Int))=false:=decide_eq_false zdC
     have hat:a=true:=HS.out.zero_true zdC
     have HR0:Hid (rowed base y.data.toList=([],false)):=Lib.hid (zks (znc zdS (show jTo base y.data.toList (k+1)=none by rw[HN.out,jStep,HI.out,if_neg zdF,if_neg (by rw[hat];simp)])))
     clear h95 HN hat
     have hk00:k=0:=by omega
     subst hk00
     go_wp2_with (go_at_call 184;refine(refDigit_any _ _ hc0 hc1).mono ?_;rintro e w' ⟨rfl,rfl⟩;rw[HZ.out])
     go_ret2
     exact⟨by rw[HR0.out];rfl,rfl⟩
   ·have hcz:((c.toNat:Int) == 95)=false:=zfx (d:=95) h95
    by_cases hdig:z<base
    ·have hdd':decide (base≤z)=false:=decide_eq_false zdC
     have HR0:Hid (jTo base y.data.toList (k+1)=some (d ++ [c],false)):=Lib.hid (by rw[HN.out,jStep,HI.out,if_pos (decide_eq_true hdig)])
     have HS1:Hid (Side y.data.toList (k+1) false):=Lib.hid (Side.step zdS (by rw[zfY hlt,HC.out];exact⟨fun g=>(by cases g),fun g=>absurd g h95⟩) (fun g=>(by cases g)))
     have hbc:(B [c]).size≤1:=by rw[bsize];simp
     clear h95 HN
     go_wp2_with (go_at_call 184;refine(refDigit_any _ _ hc0 hc1).mono ?_;rintro e w' ⟨rfl,rfl⟩;rw[HZ.out])
     go_round
     case rel=>exact⟨k+1,d ++ [c],false,by omega,by go_num,by rw[zlD],HR0.out,HS1.out⟩
     case measure=>simp [intOf];omega
    ·have hdd':decide (base≤z)=true:=decide_eq_true zdC
     have HR0:Hid (rowed base y.data.toList=([],false)):=Lib.hid (zks (znc zdS (show jTo base y.data.toList (k+1)=none by rw[HN.out,jStep,HI.out,if_neg (by simpa using hdig),if_neg (fun g=>h95 g.1)])))
     clear h95 HN
     go_wp2_with (go_at_call 184;refine(refDigit_any _ _ hc0 hc1).mono ?_;rintro e w' ⟨rfl,rfl⟩;rw[HZ.out])
     go_ret2
     exact⟨by rw[HR0.out];rfl,rfl⟩
  ·obtain rfl:k=y.size:=by omega
   by_cases hk0:y.size=0
   ·have hda:d=[]∧a=true:=by have:=HJ.out;rw[hk0] at this;obtain⟨h1,h2⟩:=Prod.mk.inj (Option.some.inj this);exact⟨h1.symm,h2.symm⟩
    obtain⟨rfl,rfl⟩:=hda
    have HR0:Hid (rowed base y.data.toList=([],false)):=Lib.hid (zjQ (d:=[]) (by rw[HD.out];exact HJ.out))
    have hem:(B []).toList=[]:=by rw[blist]
    go_wp2_with fail
    go_ret2
    exact⟨by rw[HR0.out];rfl,rfl⟩
   ·have haf:a=false:=HS.out.at_end zdC (by rw[HD.out])
    subst haf
    have hdne:=ztW (by rw[HD.out];exact HJ.out)
    have HR0:Hid (rowed base y.data.toList=(d,true)):=Lib.hid (by rw[rowed,HD.out,HJ.out])
    have hem:(B d).toList≠[]:=by rw[blist];exact hdne
    have hem2:(!(B d).toList.isEmpty)=true:=by rw[blist];simpa using hdne
    go_wp2_with fail
    go_ret2
    exact⟨by rw[HR0.out];rfl,rfl⟩):P:=h
theorem zap{P:Prop}(h:P:=by
 obtain⟨gR,oR',cR',hvR,hoR,_⟩:=hV.r.mine.shape
 obtain⟨gH,oH',cH',hvH,hoH,_⟩:=hV.h.mine.shape
 simp only[Value.slice.injEq] at hvR hvH
 obtain⟨rfl,hxx1,rfl⟩:=hvR
 obtain⟨rfl,hxx2,rfl⟩:=hvH
 clear hxx1 hxx2
 have hoR:=hoR zeK
 have hoH:=hoH zeL
 subst hoR
 subst hoH
 have hcR:c<R.length:=by rw[HLR.out];exact hc
 have hcH:c<s.H.length:=by rw[HHR.out];exact hc
 obtain⟨nn,hnn⟩:∃ nn,R[c]=nn:=⟨_,rfl⟩
 obtain⟨hh,hhh⟩:∃ hh,s.H[c]=hh:=⟨_,rfl⟩
 have htie:Tie wr D3 s.R[c] nn:=by
  obtain⟨N',h1,h2⟩:=zht (HKT.out _ _ _ _ hsub hA) c s.R[c] (List.getElem?_eq_getElem hc)
  rw[List.getElem?_eq_getElem hcR,hnn] at h1
  obtain rfl:=Option.some.inj h1
  exact h2
 have hhb:=HHB.out _ (List.getElem_mem hcH)
 rw[hhh] at hhb
 have hpush:=ziY hA s.R[c] nn hh htie hhb hN
 have hbs:=zkY (y1) s.R s.H en.b c hac hc hcH
 rw[hhh] at hbs
 rw[← hbs] at hpush
 have HS:Hid (∀ u,Below wr.heap.size wr u→(u.cell? ⟨gR,c*4,none⟩=some (.int .i64 nn.k)∧u.cell? ⟨gR,c*4+1,none⟩=some (.int .i64 nn.i)∧u.cell? ⟨gR,c*4+2,none⟩=some (.int .i64 nn.j)∧u.cell? ⟨gR,c*4+3,none⟩=some (.slice nn.o nn.n nn.c)∧u.cell? ⟨gH,c,none⟩=some (.int .i64 hh))∧Calls Tryz.prog 67 #[.pointer (some ⟨b,0,none⟩),nn.v,.int .i64 hh] u fun e' w'=>∃ v,e'=.returned v∧AtD C1 w' b ((y1).back s.R s.H en.b (c+1)) D3 (c+i+1+1) s.L∧Five C1 w' B (.slice (some ⟨gR,0,none⟩) s.R.length cR) (.slice (some ⟨gH,0,none⟩) s.R.length cH) (.slice (some ⟨gF,0,none⟩) len cF) (.slice (some ⟨gT,0,none⟩) len cT) (.slice (some ⟨gN,0,none⟩) len cN) R s.H (e::r)∧(w'.cell? ⟨gR,c*4,none⟩=some (.int .i64 nn.k)∧w'.cell? ⟨gR,c*4+1,none⟩=some (.int .i64 nn.i)∧w'.cell? ⟨gR,c*4+2,none⟩=some (.int .i64 nn.j)∧w'.cell? ⟨gR,c*4+3,none⟩=some (.slice nn.o nn.n nn.c)∧w'.cell? ⟨gH,c,none⟩=some (.int .i64 hh))):=Lib.hid (fun u hu=>by
  have hAu:=hA.below hu
  have hVu:=hV.call hA.at hAu.at
  obtain⟨a0,a1,a2,a3⟩:=zgi hVu.r.mine.cells c hcR
  have a4:=zgh hVu.h.mine.cells c hcH
  rw[hnn,Nat.zero_add] at a0 a1 a2 a3
  rw[hhh,Nat.zero_add] at a4
  refine⟨⟨a0,a1,a2,a3,a4⟩,?_⟩
  have htu:Tie u D3 s.R[c] nn:=by
   obtain⟨N',h1,h2⟩:=zht (HKT.out _ _ _ _ hsub hAu) c s.R[c] (List.getElem?_eq_getElem hc)
   rw[List.getElem?_eq_getElem hcR,hnn] at h1
   obtain rfl:=Option.some.inj h1
   exact h2
  refine(ziY hAu s.R[c] nn hh htu hhb hN).mono ?_
  rintro e' w' ⟨v,rfl,hA'⟩
  rw[← hbs] at hA'
  have hVw:=hVu.call hAu.at hA'.at
  obtain⟨e0,e1,e2,e3⟩:=zgi hVw.r.mine.cells c hcR
  have e4:=zgh hVw.h.mine.cells c hcH
  rw[hnn,Nat.zero_add] at e0 e1 e2 e3
  rw[hhh,Nat.zero_add] at e4
  exact⟨v,rfl,hA',hVw,e0,e1,e2,e3,e4⟩)
 obtain⟨⟨q0,q1,q2,q3,q4⟩,_⟩:=HS.out _ (Below.refl _ _)
 have hq0:(0:Int)≤(c:Int):=by omega
 have hq1:(c:Int)<(s.R.length:Int):=by omega
 obtain⟨z,x1,x2,xo,xn,xc⟩:=nn
 rw[show(Rn.mk z x1 x2 xo xn xc).v=.agg #[.int .i64 z,.int .i64 x1,.int .i64 x2,.slice xo xn xc] from rfl] at HS
 simp only[] at q0 q1 q2 q3 HS
 clear hpush hbs htie hnn hhh hcR hcH
 go_wp2_with fail
 go_region_held3 (fun W'=>W'.cell? ⟨gR,c*4,none⟩=some (.int .i64 z)∧W'.cell? ⟨gR,c*4+1,none⟩=some (.int .i64 x1)∧W'.cell? ⟨gR,c*4+2,none⟩=some (.int .i64 x2)∧W'.cell? ⟨gR,c*4+3,none⟩=some (.slice xo xn xc)∧W'.cell? ⟨gH,c,none⟩=some (.int .i64 hh))
  (first|exact hq'|exact(HS.out _ (Below.refl _ _).drew).1)
  (first|(go_at_call 67;refine(HS.out _ (Below.refl _ _).drew).2.mono ?_;rintro e' w' ⟨v,rfl,hA',hV',hq'⟩))
 all_goals(try go_wp2_with fail)
 all_goals go_roundw
 all_goals first|exact⟨c+1,by omega,by omega,by go_num,hA'.mono zdC,hV'⟩|(simp only[intOf];omega)):P:=h
theorem zaq{P:Prop}(h:P:=by
 have hik:∀ u:World,(Instr.index 9 (.string { data:=#[97,98,102,110,114,116,118,92] }) (.int .i64 (k:Int))).run Tryz.prog u=.ok (.int .u8 (y.toNat:Int)) u:=fun u=>by
  rw[← hy]
  have:=zfJ (B saySigns) (k:Int) k rfl zee u
  have e:(B saySigns)[k]' zee=saySigns.getD k 0:=by
   have e1:=zfY (s:=B saySigns) (i:=k) zee
   rw[← e1]
   simp [bdata,List.getD,show k<saySigns.length from hlt]
  rw[e] at this
  exact this
 have hyc:c≠y:=fun g=>HNS.out k hlt (by rw[hy];exact g.symm)
 have zy:((c.toNat:Int) == (y.toNat:Int))=false:=zfx hyc
 have HN:Hid (∀ j,j<k+1→saySigns.getD j 0≠c):=Lib.hid (fun j hj=>HNS.out j zdC)
 clear hyc
 go_wp2_with fail
 go_round
 case rel=>exact⟨k+1,by omega,by go_num,HN.out⟩
 case measure=>simp [intOf];omega):P:=h
theorem zar{P:Prop}(h:P:=by
 all_goals(first|go_end0|go_ret)
 all_goals exact⟨_,rfl,by assumption⟩):P:=h
theorem zas{P:Prop}(h:P:=by
 go_enter Tryz.func134,Tryz.ntmps134
 go_wp2_with (go_at_call 146;refine(H2.out _).mono ?_;rintro e W ⟨rfl,hbW⟩;have HF:=Lib.hid ((zgR w (.int .i64 0) (.int .i64 (i:Int)) (.int .i64 ((i:Int)+1)) (.int .i64 0) (.int .i64 (i:Int)) (.int .i64 0)).then hbW);obtain⟨⟨⟨u0,u1,u2,u3,u4,u5,k0,k1,k2,k3,k4,k5⟩,f0,f1,f2,f3,f4,f5⟩,x0,x1,x2,y0,y1,y2,⟨⟨g0,g1,g2⟩,g3,g4,g5⟩,_⟩:=HF.out;clear hbW)
 have HF1:=Lib.hid (HF.out.set0 (.int .i64 1))
 have e1:((i:Int)+1)=((i+1:Nat):Int):=by omega
 have HF2:=HF1
 rw[e1] at HF2
 clear k0 k1 k2 k3 k4 k5 f0 f1 f2 f3 f4 f5 x0 x1 x2 y0 y1 y2 g0 g1 g2 g3 g4 g5
 go_loopw [] (fun wr=>∃ n:Nat,i<n∧n≤s.size∧Four w wr (.int .i64 1) (.int .i64 (i:Int)) (.int .i64 (n:Int)) (.int .i64 0) (.int .i64 (i:Int)) (.int .i64 0)∧∀ j,i≤j→j<n→∀ h:j<s.data.toList.length,isBl s.data.toList[j]=true) (fun wr=>s.size - (intOf ((wr.cell? ⟨w.heap.size+1+1,2,none⟩).getD undef)).toNat)
 case atStart=>exact⟨i+1,by omega,by omega,HF2.out,fun j g1 g2 h=>by
          obtain rfl:j=i:=by omega
          exact HC.out h⟩
 case round=>
  obtain⟨n,hn1,hn2,hfo,hall⟩:=hrel
  have HR:=Lib.hid hfo
  have HA:=Lib.hid hall
  clear hfo hall HF HF1 HF2 e1
  obtain⟨⟨⟨u0,u1,u2,u3,u4,u5,k0,k1,k2,k3,k4,k5⟩,f0,f1,f2,f3,f4,f5⟩,x0,x1,x2,y0,y1,y2,⟨⟨g0,g1,g2⟩,g3,g4,g5⟩,_⟩:=HR.out
  by_cases hlt2:n<s.size
  ·obtain⟨d,hd⟩:∃ d,s[n]'hlt2=d:=⟨_,rfl⟩
   have hixn:∀ u:World,(Instr.index 9 (.string s) (.int .i64 (n:Int))).run Tryz.prog u=.ok (.int .u8 (d.toNat:Int)) u:=fun u=>by rw[← hd];exact zfJ s _ n rfl hlt2 u
   have HD:Hid (∀ h:n<s.data.toList.length,s.data.toList[n]=d):=Lib.hid (fun _=>by rw[← hd];rfl)
   have dlt:decide ((n:Int)<(s.size:Int))=true:=decide_eq_true zdC
   clear hd
   cases hp:isBl d with
   |true=>
    have H3:=Lib.hid (fun u=>ziW d u)
    rw[hp] at H3
    have HP:=Lib.hid hp
    clear hp
    go_wp2_with (go_at_call 146;refine(H3.out _).mono ?_;rintro e w' ⟨rfl,rfl⟩)
    go_roundw
    case rel=>exact⟨n+1,by omega,by omega,by have:=HR.out.set2 (.int .i64 ((n+1:Nat):Int));exact this,fun j g1 g2 h=>by
           by_cases e:j=n
           ·subst e;rw[HD.out h];exact HP.out
           ·exact HA.out j g1 zdC h⟩
    case measure=>have e2:=(HR.out.set2 (.int .i64 ((n:Int)+1))).x2;simp only[x2,e2,Option.getD_some,intOf];omega
   |false=>
    have H3:=Lib.hid (fun u=>ziW d u)
    rw[hp] at H3
    have HP:=Lib.hid hp
    clear hp
    have HE:Hid (i+runL isBl (s.data.toList.drop i)=n):=Lib.hid (zpB zdC zff HA.out zfg)
    go_wp2_with (go_at_call 146;refine(H3.out _).mono ?_;rintro e w' ⟨rfl,rfl⟩)
    go_region
    go_wp2_with fail
    exact bodyPost_ret (zfT Tryz.results134 _ zfo (.int .i64 1) (.int .i64 (i:Int)) (.int .i64 (n:Int)) (.int .i64 0) (.int .i64 (i:Int)) (.int .i64 (n:Int)) rfl rfl) rfl (Told.mk' (x:=(i:Int)) (y:=(n:Int)) (by rw[HW.out,show((i:Int)+((right 1 (runL isBl (s.data.toList.drop i))).width:Int))=(n:Int) by have:=HE.out;simp only[right];omega];rfl) zdZ (zfU zfp (Nat.le_refl _) _ _ _ _ _ _).drew)
  ·have dlt:decide ((n:Int)<(s.size:Int))=false:=decide_eq_false zdC
   obtain rfl:n=s.size:=by omega
   have HE:Hid (i+runL isBl (s.data.toList.drop i)=s.size):=Lib.hid zfn
   go_wp2_with fail
   go_region
   go_wp2_with fail
   exact bodyPost_ret (zfT Tryz.results134 _ zfo (.int .i64 1) (.int .i64 (i:Int)) (.int .i64 (s.size:Int)) (.int .i64 0) (.int .i64 (i:Int)) (.int .i64 (s.size:Int)) rfl rfl) rfl (Told.mk' (x:=(i:Int)) (y:=(s.size:Int)) (by rw[HW.out,show((i:Int)+((right 1 (runL isBl (s.data.toList.drop i))).width:Int))=(s.size:Int) by have:=HE.out;simp only[right];omega];rfl) zdZ (zfU zfp (Nat.le_refl _) _ _ _ _ _ _).drew)):P:=h
theorem zat{P:Prop}(h:P:=by
 go_wp2_with (first|(go_at_call 62;first|(refine(zfE ‹_›).mono ?_;rintro e w' ⟨rfl,rfl⟩)|(refine(zfD ‹_›).mono ?_;rintro e w' ⟨⟨v,rfl⟩,rfl⟩))|(go_at_call 34;refine(zfG ‹_› _ zeu).mono ?_;rintro e w' ⟨rfl,hat⟩;have hc8:=zft _ _ _ _ hat;first|rw[zfw] at hc8|rw[zfv] at hc8|skip)|(go_at_call 58;first|(refine(zgT ‹_› ‹_›).mono ?_;rintro e w' ⟨rfl,rfl⟩)|(refine(zgN ‹_›).mono ?_;rintro e w' ⟨rfl,rfl⟩))|(go_at_call 46;refine(zgw ‹_› _ zeu).mono ?_;rintro e w' ⟨v,rfl,hat⟩;have hc8:=zft _ _ _ _ hat;first|rw[zfw] at hc8|rw[zfv] at hc8|skip)|(go_at_call 32;refine(zfK ‹_› zeu).mono ?_;rintro e w' ⟨v,rfl,hat⟩;have hc8:=zft _ _ _ _ hat;first|rw[zfw] at hc8|rw[zfv] at hc8|skip)|(go_at_call 38;refine(HCL _ _ _ _ _ _ _ _ ‹_› zev zeu).mono ?_;rintro e w' ⟨v,rfl,hat⟩;have hc8:=zft _ _ _ _ hat;first|rw[zfw] at hc8|rw[zfv] at hc8|skip)|(go_at_call 61;first|(refine(zfS ‹_›).mono ?_;rintro e w' ⟨rfl,rfl⟩)|(refine(zfQ ‹_›).mono ?_;rintro e w' ⟨⟨v,_,rfl⟩,rfl⟩))|(go_at_call 33;refine(zfO ‹_› _ zeu).mono ?_;rintro e w' ⟨rfl,hat⟩)|(go_at_call 57;first|(refine(zfI ‹_› ‹_›).mono ?_;rintro e w' ⟨rfl,hat⟩)|(refine(zfH ‹_›).mono ?_;rintro e w' ⟨rfl,hat⟩))|(go_at_call 45;refine(zgu ‹_› _ zeu).mono ?_;rintro e w' ⟨v,rfl,hat⟩)|(go_at_call 31;refine(zfZ ‹_› zeu).mono ?_;rintro e w' ⟨v,rfl,hat⟩)|(go_at_call 37;refine(zfP _ _ _ _ _ _ _ _ ‹_› zev zez zeu).mono ?_;rintro e w' ⟨v,rfl,hat⟩))
 go_end0
 exact⟨_,rfl,by assumption⟩):P:=h
theorem zau{P:Prop}(h:P:=by
 go_loop [9,10,11] (fun u b i=>∃ k:Nat,k≤3∧i=.int .i64 (2+(k:Int))∧b=.bool (okTo s.data.toList 4 k)∧u=.int .i64 (uTo s.data.toList 4 k)) (fun _ _ i=>5 - (intOf i).toNat)
 case atStart=>exact⟨0,by omega,rfl,by rw[hg],by rw[HU0.out]⟩
 case round=>
  obtain⟨k,hk,rfl,rfl,rfl⟩:=hrel
  clear hg
  by_cases hkl:k<3
  ·have hdk:decide (2+(k:Int)<5)=true:=decide_eq_true zdC
   have hix:=HIX.out (2+(k:Int)) (2+k) zdC zdC
   have hub:=zhL s.data.toList 4 k zdC
   have HO1:Hid (okTo s.data.toList 4 (k+1)=(okTo s.data.toList 4 k && decide (bz s.data.toList (2+k) / 64*64=128))):=Lib.hid rfl
   have HU1:Hid (uTo s.data.toList 4 (k+1)=uTo s.data.toList 4 k*64+bz s.data.toList (2+k) % 64):=Lib.hid rfl
   obtain⟨x,hx⟩:∃ x,bz s.data.toList (2+k)=x:=⟨_,rfl⟩
   obtain⟨hx0,hx1⟩:=zhC s.data.toList (2+k)
   obtain⟨u,hu⟩:∃ u,uTo s.data.toList 4 k=u:=⟨_,rfl⟩
   obtain⟨b,hb⟩:∃ b,okTo s.data.toList 4 k=b:=⟨_,rfl⟩
   rw[hx] at hix HO1 HU1 hx0 hx1
   rw[hu] at hub HU1 ⊢
   rw[hb] at HO1 ⊢
   have a1:=and192 x hx0 hx1
   have a2:=and63 x hx0 hx1
   clear hx hu hb
   cases b with
   |false=>
    go_wp2_with fail
    go_round
    case rel=>exact⟨k+1,by omega,by go_num,by rw[HO1.out];rfl,by rw[HU1.out]⟩
    case measure=>simp [intOf];omega
   |true=>
    go_wp2_with fail
    go_round
    case rel=>exact⟨k+1,by omega,by go_num,by rw[HO1.out,Bool.true_and];rfl,by rw[HU1.out]⟩
    case measure=>simp [intOf];omega
  ·obtain rfl:k=3:=by omega
   obtain⟨u,hu⟩:∃ u,uTo s.data.toList 4 3=u:=⟨_,rfl⟩
   obtain⟨b,hb⟩:∃ b,okTo s.data.toList 4 3=b:=⟨_,rfl⟩
   have HH:Hid (hitC s.data.toList 4↔(b=true∧u≤1114111∧(u<55296∨57343<u)∧65536≤u)):=Lib.hid zfq
   have hub:=zhL s.data.toList 4 3 zdC
   rw[hu] at hub ⊢
   rw[hb]
   have HU:=Lib.hid hu
   clear hu hb hkl hk
   cases b with
   |false=>
    have HNH:Hid (¬ hitC s.data.toList 4):=Lib.hid (fun h=>by have:=(HH.out.1 h).1;cases this)
    clear HH
    go_wp2_with fail
    have HNB:Hid (∀ m,2≤m→m<5→1+m≤s.size∧¬ hitC s.data.toList m):=Lib.hid (fun m h2 h3=>by
     by_cases e:m=4
     ·subst e;exact⟨hns,HNH.out⟩
     ·exact HBF.out m h2 zdC)
    go_roundw
    case rel=>exact⟨5,by omega,by omega,by go_num,HNB.out,by first|exact HB.out.alloc hsz _|exact(HB.out.alloc hsz _).drew|exact((HB.out.alloc hsz _).alloc zeP _)|exact((HB.out.alloc hsz _).alloc zeP _).drew⟩
    case measure=>simp [intOf]
   |true=>
    by_cases u1:u≤1114111
    ·have du1:decide (u≤1114111)=true:=decide_eq_true u1
     by_cases u2:u<55296
     ·have du2:decide (u<55296)=true:=decide_eq_true u2
      by_cases u4:65536≤u
      ·have du4:decide (65536≤u)=true:=decide_eq_true u4
       have HR:Hid (charC s.data.toList=(u,4)):=Lib.hid (by rw[charC,if_neg (fun g=>(HBF.out 2 zdC zdC).2 g.2),if_neg (fun g=>(HBF.out 3 zdC zdC).2 g.2),if_pos ⟨by rw[HSL.out];omega,HH.out.2 ⟨rfl,u1,.inl u2,u4⟩⟩,HU.out])
       clear HH u1 u2 u4
       go_wp2_with fail
       go_ret2
       exact⟨by rw[HR.out];rfl,by first|exact HB.out.alloc hsz _|exact(HB.out.alloc hsz _).drew|exact((HB.out.alloc hsz _).alloc zeP _)|exact((HB.out.alloc hsz _).alloc zeP _).drew⟩
      ·have du4:decide (65536≤u)=false:=decide_eq_false u4
       have HNH:Hid (¬ hitC s.data.toList 4):=Lib.hid (fun h=>u4 (HH.out.1 h).2.2.2)
       clear HH u1 u2 u4
       go_wp2_with fail
       have HNB:Hid (∀ m,2≤m→m<5→1+m≤s.size∧¬ hitC s.data.toList m):=Lib.hid (fun m h2 h3=>by
        by_cases e:m=4
        ·subst e;exact⟨hns,HNH.out⟩
        ·exact HBF.out m h2 zdC)
       go_roundw
       case rel=>exact⟨5,by omega,by omega,by go_num,HNB.out,by first|exact HB.out.alloc hsz _|exact(HB.out.alloc hsz _).drew|exact((HB.out.alloc hsz _).alloc zeP _)|exact((HB.out.alloc hsz _).alloc zeP _).drew⟩
       case measure=>simp [intOf]
     ·have du2:decide (u<55296)=false:=decide_eq_false u2
      by_cases u3:57343<u
      ·have du3:decide (57343<u)=true:=decide_eq_true u3
       by_cases u4:65536≤u
       ·have du4:decide (65536≤u)=true:=decide_eq_true u4
        have HR:Hid (charC s.data.toList=(u,4)):=Lib.hid (by rw[charC,if_neg (fun g=>(HBF.out 2 zdC zdC).2 g.2),if_neg (fun g=>(HBF.out 3 zdC zdC).2 g.2),if_pos ⟨by rw[HSL.out];omega,HH.out.2 ⟨rfl,u1,.inr u3,u4⟩⟩,HU.out])
        clear HH u1 u2 u4 u3
        go_wp2_with fail
        go_ret2
        exact⟨by rw[HR.out];rfl,by first|exact HB.out.alloc hsz _|exact(HB.out.alloc hsz _).drew|exact((HB.out.alloc hsz _).alloc zeP _)|exact((HB.out.alloc hsz _).alloc zeP _).drew⟩
       ·have du4:decide (65536≤u)=false:=decide_eq_false u4
        have HNH:Hid (¬ hitC s.data.toList 4):=Lib.hid (fun h=>u4 (HH.out.1 h).2.2.2)
        clear HH u1 u2 u4 u3
        go_wp2_with fail
        have HNB:Hid (∀ m,2≤m→m<5→1+m≤s.size∧¬ hitC s.data.toList m):=Lib.hid (fun m h2 h3=>by
         by_cases e:m=4
         ·subst e;exact⟨hns,HNH.out⟩
         ·exact HBF.out m h2 zdC)
        go_roundw
        case rel=>exact⟨5,by omega,by omega,by go_num,HNB.out,by first|exact HB.out.alloc hsz _|exact(HB.out.alloc hsz _).drew|exact((HB.out.alloc hsz _).alloc zeP _)|exact((HB.out.alloc hsz _).alloc zeP _).drew⟩
        case measure=>simp [intOf]
      ·have du3:decide (57343<u)=false:=decide_eq_false u3
       have HNH:Hid (¬ hitC s.data.toList 4):=Lib.hid (fun h=>by have:=(HH.out.1 h).2.2.1;omega)
       clear HH u1 u2 u3
       go_wp2_with fail
       have HNB:Hid (∀ m,2≤m→m<5→1+m≤s.size∧¬ hitC s.data.toList m):=Lib.hid (fun m h2 h3=>by
        by_cases e:m=4
        ·subst e;exact⟨hns,HNH.out⟩
        ·exact HBF.out m h2 zdC)
       go_roundw
       case rel=>exact⟨5,by omega,by omega,by go_num,HNB.out,by first|exact HB.out.alloc hsz _|exact(HB.out.alloc hsz _).drew|exact((HB.out.alloc hsz _).alloc zeP _)|exact((HB.out.alloc hsz _).alloc zeP _).drew⟩
       case measure=>simp [intOf]
    ·have du1:decide (u≤1114111)=false:=decide_eq_false u1
     have HNH:Hid (¬ hitC s.data.toList 4):=Lib.hid (fun h=>u1 (HH.out.1 h).2.1)
     clear HH u1
     go_wp2_with fail
     have HNB:Hid (∀ m,2≤m→m<5→1+m≤s.size∧¬ hitC s.data.toList m):=Lib.hid (fun m h2 h3=>by
      by_cases e:m=4
      ·subst e;exact⟨hns,HNH.out⟩
      ·exact HBF.out m h2 zdC)
     go_roundw
     case rel=>exact⟨5,by omega,by omega,by go_num,HNB.out,by first|exact HB.out.alloc hsz _|exact(HB.out.alloc hsz _).drew|exact((HB.out.alloc hsz _).alloc zeP _)|exact((HB.out.alloc hsz _).alloc zeP _).drew⟩
     case measure=>simp [intOf]):P:=h
theorem zav{P:Prop}(h:P:=by
 go_loop [9,10,11] (fun u b i=>∃ k:Nat,k≤2∧i=.int .i64 (2+(k:Int))∧b=.bool (okTo s.data.toList 3 k)∧u=.int .i64 (uTo s.data.toList 3 k)) (fun _ _ i=>4 - (intOf i).toNat)
 case atStart=>exact⟨0,by omega,rfl,by rw[hg],by rw[HU0.out]⟩
 case round=>
  obtain⟨k,hk,rfl,rfl,rfl⟩:=hrel
  clear hg
  by_cases hkl:k<2
  ·have hdk:decide (2+(k:Int)<4)=true:=decide_eq_true zdC
   have hix:=HIX.out (2+(k:Int)) (2+k) zdC zdC
   have hub:=zhL s.data.toList 3 k zdC
   have HO1:Hid (okTo s.data.toList 3 (k+1)=(okTo s.data.toList 3 k && decide (bz s.data.toList (2+k) / 64*64=128))):=Lib.hid rfl
   have HU1:Hid (uTo s.data.toList 3 (k+1)=uTo s.data.toList 3 k*64+bz s.data.toList (2+k) % 64):=Lib.hid rfl
   obtain⟨x,hx⟩:∃ x,bz s.data.toList (2+k)=x:=⟨_,rfl⟩
   obtain⟨hx0,hx1⟩:=zhC s.data.toList (2+k)
   obtain⟨u,hu⟩:∃ u,uTo s.data.toList 3 k=u:=⟨_,rfl⟩
   obtain⟨b,hb⟩:∃ b,okTo s.data.toList 3 k=b:=⟨_,rfl⟩
   rw[hx] at hix HO1 HU1 hx0 hx1
   rw[hu] at hub HU1 ⊢
   rw[hb] at HO1 ⊢
   have a1:=and192 x hx0 hx1
   have a2:=and63 x hx0 hx1
   clear hx hu hb
   cases b with
   |false=>
    go_wp2_with fail
    go_round
    case rel=>exact⟨k+1,by omega,by go_num,by rw[HO1.out];rfl,by rw[HU1.out]⟩
    case measure=>simp [intOf];omega
   |true=>
    go_wp2_with fail
    go_round
    case rel=>exact⟨k+1,by omega,by go_num,by rw[HO1.out,Bool.true_and];rfl,by rw[HU1.out]⟩
    case measure=>simp [intOf];omega
  ·obtain rfl:k=2:=by omega
   obtain⟨u,hu⟩:∃ u,uTo s.data.toList 3 2=u:=⟨_,rfl⟩
   obtain⟨b,hb⟩:∃ b,okTo s.data.toList 3 2=b:=⟨_,rfl⟩
   have HH:Hid (hitC s.data.toList 3↔(b=true∧u≤1114111∧(u<55296∨57343<u)∧2048≤u)):=Lib.hid zfq
   have hub:=zhL s.data.toList 3 2 zdC
   rw[hu] at hub ⊢
   rw[hb]
   have HU:=Lib.hid hu
   clear hu hb hkl hk
   cases b with
   |false=>
    have HNH:Hid (¬ hitC s.data.toList 3):=Lib.hid (fun h=>by have:=(HH.out.1 h).1;cases this)
    clear HH
    go_wp2_with fail
    have HNB:Hid (∀ m,2≤m→m<4→1+m≤s.size∧¬ hitC s.data.toList m):=Lib.hid (fun m h2 h3=>by
     by_cases e:m=3
     ·subst e;exact⟨hns,HNH.out⟩
     ·exact HBF.out m h2 zdC)
    go_roundw
    case rel=>exact⟨4,by omega,by omega,by go_num,HNB.out,by first|exact HB.out.alloc hsz _|exact(HB.out.alloc hsz _).drew|exact((HB.out.alloc hsz _).alloc zeP _)|exact((HB.out.alloc hsz _).alloc zeP _).drew⟩
    case measure=>simp [intOf]
   |true=>
    by_cases u1:u≤1114111
    ·have du1:decide (u≤1114111)=true:=decide_eq_true u1
     by_cases u2:u<55296
     ·have du2:decide (u<55296)=true:=decide_eq_true u2
      by_cases u4:2048≤u
      ·have du4:decide (2048≤u)=true:=decide_eq_true u4
       have HR:Hid (charC s.data.toList=(u,3)):=Lib.hid (by rw[charC,if_neg (fun g=>(HBF.out 2 zdC zdC).2 g.2),if_pos ⟨by rw[HSL.out];omega,HH.out.2 ⟨rfl,u1,.inl u2,u4⟩⟩,HU.out])
       clear HH u1 u2 u4
       go_wp2_with fail
       go_ret2
       exact⟨by rw[HR.out];rfl,by first|exact HB.out.alloc hsz _|exact(HB.out.alloc hsz _).drew|exact((HB.out.alloc hsz _).alloc zeP _)|exact((HB.out.alloc hsz _).alloc zeP _).drew⟩
      ·have du4:decide (2048≤u)=false:=decide_eq_false u4
       have HNH:Hid (¬ hitC s.data.toList 3):=Lib.hid (fun h=>u4 (HH.out.1 h).2.2.2)
       clear HH u1 u2 u4
       go_wp2_with fail
       have HNB:Hid (∀ m,2≤m→m<4→1+m≤s.size∧¬ hitC s.data.toList m):=Lib.hid (fun m h2 h3=>by
        by_cases e:m=3
        ·subst e;exact⟨hns,HNH.out⟩
        ·exact HBF.out m h2 zdC)
       go_roundw
       case rel=>exact⟨4,by omega,by omega,by go_num,HNB.out,by first|exact HB.out.alloc hsz _|exact(HB.out.alloc hsz _).drew|exact((HB.out.alloc hsz _).alloc zeP _)|exact((HB.out.alloc hsz _).alloc zeP _).drew⟩
       case measure=>simp [intOf]
     ·have du2:decide (u<55296)=false:=decide_eq_false u2
      by_cases u3:57343<u
      ·have du3:decide (57343<u)=true:=decide_eq_true u3
       by_cases u4:2048≤u
       ·have du4:decide (2048≤u)=true:=decide_eq_true u4
        have HR:Hid (charC s.data.toList=(u,3)):=Lib.hid (by rw[charC,if_neg (fun g=>(HBF.out 2 zdC zdC).2 g.2),if_pos ⟨by rw[HSL.out];omega,HH.out.2 ⟨rfl,u1,.inr u3,u4⟩⟩,HU.out])
        clear HH u1 u2 u4 u3
        go_wp2_with fail
        go_ret2
        exact⟨by rw[HR.out];rfl,by first|exact HB.out.alloc hsz _|exact(HB.out.alloc hsz _).drew|exact((HB.out.alloc hsz _).alloc zeP _)|exact((HB.out.alloc hsz _).alloc zeP _).drew⟩
       ·have du4:decide (2048≤u)=false:=decide_eq_false u4
        have HNH:Hid (¬ hitC s.data.toList 3):=Lib.hid (fun h=>u4 (HH.out.1 h).2.2.2)
        clear HH u1 u2 u4 u3
        go_wp2_with fail
        have HNB:Hid (∀ m,2≤m→m<4→1+m≤s.size∧¬ hitC s.data.toList m):=Lib.hid (fun m h2 h3=>by
         by_cases e:m=3
         ·subst e;exact⟨hns,HNH.out⟩
         ·exact HBF.out m h2 zdC)
        go_roundw
        case rel=>exact⟨4,by omega,by omega,by go_num,HNB.out,by first|exact HB.out.alloc hsz _|exact(HB.out.alloc hsz _).drew|exact((HB.out.alloc hsz _).alloc zeP _)|exact((HB.out.alloc hsz _).alloc zeP _).drew⟩
        case measure=>simp [intOf]
      ·have du3:decide (57343<u)=false:=decide_eq_false u3
       have HNH:Hid (¬ hitC s.data.toList 3):=Lib.hid (fun h=>by have:=(HH.out.1 h).2.2.1;omega)
       clear HH u1 u2 u3
       go_wp2_with fail
       have HNB:Hid (∀ m,2≤m→m<4→1+m≤s.size∧¬ hitC s.data.toList m):=Lib.hid (fun m h2 h3=>by
        by_cases e:m=3
        ·subst e;exact⟨hns,HNH.out⟩
        ·exact HBF.out m h2 zdC)
       go_roundw
       case rel=>exact⟨4,by omega,by omega,by go_num,HNB.out,by first|exact HB.out.alloc hsz _|exact(HB.out.alloc hsz _).drew|exact((HB.out.alloc hsz _).alloc zeP _)|exact((HB.out.alloc hsz _).alloc zeP _).drew⟩
       case measure=>simp [intOf]
    ·have du1:decide (u≤1114111)=false:=decide_eq_false u1
     have HNH:Hid (¬ hitC s.data.toList 3):=Lib.hid (fun h=>u1 (HH.out.1 h).2.1)
     clear HH u1
     go_wp2_with fail
     have HNB:Hid (∀ m,2≤m→m<4→1+m≤s.size∧¬ hitC s.data.toList m):=Lib.hid (fun m h2 h3=>by
      by_cases e:m=3
      ·subst e;exact⟨hns,HNH.out⟩
      ·exact HBF.out m h2 zdC)
     go_roundw
     case rel=>exact⟨4,by omega,by omega,by go_num,HNB.out,by first|exact HB.out.alloc hsz _|exact(HB.out.alloc hsz _).drew|exact((HB.out.alloc hsz _).alloc zeP _)|exact((HB.out.alloc hsz _).alloc zeP _).drew⟩
     case measure=>simp [intOf]):P:=h
theorem zaw{P:Prop}(h:P:=by
 go_loop [9,10,11] (fun u b i=>∃ k:Nat,k≤1∧i=.int .i64 (2+(k:Int))∧b=.bool (okTo s.data.toList 2 k)∧u=.int .i64 (uTo s.data.toList 2 k)) (fun _ _ i=>3 - (intOf i).toNat)
 case atStart=>exact⟨0,by omega,rfl,by rw[hg],by rw[HU0.out]⟩
 case round=>
  obtain⟨k,hk,rfl,rfl,rfl⟩:=hrel
  clear hg
  by_cases hkl:k<1
  ·have hdk:decide (2+(k:Int)<3)=true:=decide_eq_true zdC
   have hix:=HIX.out (2+(k:Int)) (2+k) zdC zdC
   have hub:=zhL s.data.toList 2 k zdC
   have HO1:Hid (okTo s.data.toList 2 (k+1)=(okTo s.data.toList 2 k && decide (bz s.data.toList (2+k) / 64*64=128))):=Lib.hid rfl
   have HU1:Hid (uTo s.data.toList 2 (k+1)=uTo s.data.toList 2 k*64+bz s.data.toList (2+k) % 64):=Lib.hid rfl
   obtain⟨x,hx⟩:∃ x,bz s.data.toList (2+k)=x:=⟨_,rfl⟩
   obtain⟨hx0,hx1⟩:=zhC s.data.toList (2+k)
   obtain⟨u,hu⟩:∃ u,uTo s.data.toList 2 k=u:=⟨_,rfl⟩
   obtain⟨b,hb⟩:∃ b,okTo s.data.toList 2 k=b:=⟨_,rfl⟩
   rw[hx] at hix HO1 HU1 hx0 hx1
   rw[hu] at hub HU1 ⊢
   rw[hb] at HO1 ⊢
   have a1:=and192 x hx0 hx1
   have a2:=and63 x hx0 hx1
   clear hx hu hb
   cases b with
   |false=>
    go_wp2_with fail
    go_round
    case rel=>exact⟨k+1,by omega,by go_num,by rw[HO1.out];rfl,by rw[HU1.out]⟩
    case measure=>simp [intOf];omega
   |true=>
    go_wp2_with fail
    go_round
    case rel=>exact⟨k+1,by omega,by go_num,by rw[HO1.out,Bool.true_and];rfl,by rw[HU1.out]⟩
    case measure=>simp [intOf];omega
  ·obtain rfl:k=1:=by omega
   obtain⟨u,hu⟩:∃ u,uTo s.data.toList 2 1=u:=⟨_,rfl⟩
   obtain⟨b,hb⟩:∃ b,okTo s.data.toList 2 1=b:=⟨_,rfl⟩
   have HH:Hid (hitC s.data.toList 2↔(b=true∧u≤1114111∧(u<55296∨57343<u)∧128≤u)):=Lib.hid zfq
   have hub:=zhL s.data.toList 2 1 zdC
   rw[hu] at hub ⊢
   rw[hb]
   have HU:=Lib.hid hu
   clear hu hb hkl hk
   cases b with
   |false=>
    have HNH:Hid (¬ hitC s.data.toList 2):=Lib.hid (fun h=>by have:=(HH.out.1 h).1;cases this)
    clear HH
    go_wp2_with fail
    have HNB:Hid (∀ m,2≤m→m<3→1+m≤s.size∧¬ hitC s.data.toList m):=Lib.hid (fun m h2 h3=>by
     by_cases e:m=2
     ·subst e;exact⟨hns,HNH.out⟩
     ·exact HBF.out m h2 zdC)
    go_roundw
    case rel=>exact⟨3,by omega,by omega,by go_num,HNB.out,by first|exact HB.out.alloc hsz _|exact(HB.out.alloc hsz _).drew|exact((HB.out.alloc hsz _).alloc zeP _)|exact((HB.out.alloc hsz _).alloc zeP _).drew⟩
    case measure=>simp [intOf]
   |true=>
    by_cases u1:u≤1114111
    ·have du1:decide (u≤1114111)=true:=decide_eq_true u1
     by_cases u2:u<55296
     ·have du2:decide (u<55296)=true:=decide_eq_true u2
      by_cases u4:128≤u
      ·have du4:decide (128≤u)=true:=decide_eq_true u4
       have HR:Hid (charC s.data.toList=(u,2)):=Lib.hid (by rw[charC,if_pos ⟨by rw[HSL.out];omega,HH.out.2 ⟨rfl,u1,.inl u2,u4⟩⟩,HU.out])
       clear HH u1 u2 u4
       go_wp2_with fail
       go_ret2
       exact⟨by rw[HR.out];rfl,by first|exact HB.out.alloc hsz _|exact(HB.out.alloc hsz _).drew|exact((HB.out.alloc hsz _).alloc zeP _)|exact((HB.out.alloc hsz _).alloc zeP _).drew⟩
      ·have du4:decide (128≤u)=false:=decide_eq_false u4
       have HNH:Hid (¬ hitC s.data.toList 2):=Lib.hid (fun h=>u4 (HH.out.1 h).2.2.2)
       clear HH u1 u2 u4
       go_wp2_with fail
       have HNB:Hid (∀ m,2≤m→m<3→1+m≤s.size∧¬ hitC s.data.toList m):=Lib.hid (fun m h2 h3=>by
        by_cases e:m=2
        ·subst e;exact⟨hns,HNH.out⟩
        ·exact HBF.out m h2 zdC)
       go_roundw
       case rel=>exact⟨3,by omega,by omega,by go_num,HNB.out,by first|exact HB.out.alloc hsz _|exact(HB.out.alloc hsz _).drew|exact((HB.out.alloc hsz _).alloc zeP _)|exact((HB.out.alloc hsz _).alloc zeP _).drew⟩
       case measure=>simp [intOf]
     ·have du2:decide (u<55296)=false:=decide_eq_false u2
      by_cases u3:57343<u
      ·have du3:decide (57343<u)=true:=decide_eq_true u3
       by_cases u4:128≤u
       ·have du4:decide (128≤u)=true:=decide_eq_true u4
        have HR:Hid (charC s.data.toList=(u,2)):=Lib.hid (by rw[charC,if_pos ⟨by rw[HSL.out];omega,HH.out.2 ⟨rfl,u1,.inr u3,u4⟩⟩,HU.out])
        clear HH u1 u2 u4 u3
        go_wp2_with fail
        go_ret2
        exact⟨by rw[HR.out];rfl,by first|exact HB.out.alloc hsz _|exact(HB.out.alloc hsz _).drew|exact((HB.out.alloc hsz _).alloc zeP _)|exact((HB.out.alloc hsz _).alloc zeP _).drew⟩
       ·have du4:decide (128≤u)=false:=decide_eq_false u4
        have HNH:Hid (¬ hitC s.data.toList 2):=Lib.hid (fun h=>u4 (HH.out.1 h).2.2.2)
        clear HH u1 u2 u4 u3
        go_wp2_with fail
        have HNB:Hid (∀ m,2≤m→m<3→1+m≤s.size∧¬ hitC s.data.toList m):=Lib.hid (fun m h2 h3=>by
         by_cases e:m=2
         ·subst e;exact⟨hns,HNH.out⟩
         ·exact HBF.out m h2 zdC)
        go_roundw
        case rel=>exact⟨3,by omega,by omega,by go_num,HNB.out,by first|exact HB.out.alloc hsz _|exact(HB.out.alloc hsz _).drew|exact((HB.out.alloc hsz _).alloc zeP _)|exact((HB.out.alloc hsz _).alloc zeP _).drew⟩
        case measure=>simp [intOf]
      ·have du3:decide (57343<u)=false:=decide_eq_false u3
       have HNH:Hid (¬ hitC s.data.toList 2):=Lib.hid (fun h=>by have:=(HH.out.1 h).2.2.1;omega)
       clear HH u1 u2 u3
       go_wp2_with fail
       have HNB:Hid (∀ m,2≤m→m<3→1+m≤s.size∧¬ hitC s.data.toList m):=Lib.hid (fun m h2 h3=>by
        by_cases e:m=2
        ·subst e;exact⟨hns,HNH.out⟩
        ·exact HBF.out m h2 zdC)
       go_roundw
       case rel=>exact⟨3,by omega,by omega,by go_num,HNB.out,by first|exact HB.out.alloc hsz _|exact(HB.out.alloc hsz _).drew|exact((HB.out.alloc hsz _).alloc zeP _)|exact((HB.out.alloc hsz _).alloc zeP _).drew⟩
       case measure=>simp [intOf]
    ·have du1:decide (u≤1114111)=false:=decide_eq_false u1
     have HNH:Hid (¬ hitC s.data.toList 2):=Lib.hid (fun h=>u1 (HH.out.1 h).2.1)
     clear HH u1
     go_wp2_with fail
     have HNB:Hid (∀ m,2≤m→m<3→1+m≤s.size∧¬ hitC s.data.toList m):=Lib.hid (fun m h2 h3=>by
      by_cases e:m=2
      ·subst e;exact⟨hns,HNH.out⟩
      ·exact HBF.out m h2 zdC)
     go_roundw
     case rel=>exact⟨3,by omega,by omega,by go_num,HNB.out,by first|exact HB.out.alloc hsz _|exact(HB.out.alloc hsz _).drew|exact((HB.out.alloc hsz _).alloc zeP _)|exact((HB.out.alloc hsz _).alloc zeP _).drew⟩
     case measure=>simp [intOf]):P:=h
theorem zax{P:Prop}(h:P:=by
 all_goals(first|(obtain rfl:=Option.some.inj hy2)|(replace hy2:=Lib.hid hy2))
 iterate 2 (all_goals try(rename _∧_=>ho;obtain⟨_,_⟩:=ho))
 iterate 7 (all_goals try(rename _∨_=>ho;rcases ho with ho|ho))
 all_goals(repeat (rename ¬ (_∨_)=>ho;rw[not_or] at ho;obtain⟨_,_⟩:=ho))
 all_goals go_wp2_with (first|(go_at_call 62;first|(refine(zfE ‹_›).mono ?_;rintro e w' ⟨rfl,rfl⟩)|(refine(zfD ‹_›).mono ?_;rintro e w' ⟨⟨v,rfl⟩,rfl⟩))|(go_at_call 160;first|(refine((ih _ ?hk).operand _ _ _ _ _ ‹_› ‹_›).mono ?_;(case hk=>omega);rintro e w' ⟨v,rfl,hat⟩)|(refine(zgG HCL _ _ _ _ _ _ ‹_›).mono ?_;rintro e w' ⟨v,rfl,hat⟩);have hc8:=zft _ _ _ _ hat;first|rw[zfw] at hc8|rw[zfv] at hc8|skip)|(go_at_call 161;first|(refine((ih _ ?hk).period _ _ _ _ _ _ _ ‹_› zev ‹_›).mono ?_;(case hk=>omega);rintro e w' ⟨v,rfl,hat⟩)|(refine(zhp HCL _ _ _ _ _ _ _ ‹_›).mono ?_;rintro e w' ⟨v,rfl,hat⟩);have hc8:=zft _ _ _ _ hat;first|rw[zfw] at hc8|rw[zfv] at hc8|skip)|(go_at_call 162;first|(refine((ih _ ?hk).index _ _ _ _ _ _ _ ‹_› zev ‹_›).mono ?_;(case hk=>omega);rintro e w' ⟨v,rfl,hat⟩)|(refine(zhM HCL _ _ _ _ _ _ _ ‹_›).mono ?_;rintro e w' ⟨v,rfl,hat⟩);have hc8:=zft _ _ _ _ hat;first|rw[zfw] at hc8|rw[zfv] at hc8|skip)|(go_at_call 163;first|(refine((ih _ ?hk).call _ _ _ _ _ _ _ ‹_› zev ‹_›).mono ?_;(case hk=>omega);rintro e w' ⟨v,rfl,hat⟩)|(refine(zih HCL _ _ _ _ _ _ _ ‹_›).mono ?_;rintro e w' ⟨v,rfl,hat⟩);have hc8:=zft _ _ _ _ hat;first|rw[zfw] at hc8|rw[zfv] at hc8|skip)|(go_at_call 165;first|(refine((ih _ ?hk).values _ _ _ _ _ ‹_› ‹_›).mono ?_;(case hk=>omega);rintro e w' ⟨v,rfl,hat⟩)|(refine(zhb HCL _ _ _ _ _ _ ‹_›).mono ?_;rintro e w' ⟨v,rfl,hat⟩);have hc8:=zft _ _ _ _ hat;first|rw[zfw] at hc8|rw[zfv] at hc8|skip)|(go_at_call 38;refine(HCL _ _ _ _ _ _ _ _ ‹_› zev zew).mono ?_;rintro e w' ⟨v,rfl,hat⟩;have hc8:=zft _ _ _ _ hat;first|rw[zfw] at hc8|rw[zfv] at hc8|skip)|(go_at_call 95;first|(with_reducible refine(zfC ‹_› ?hc).mono ?_;(case hc=>simp [Res.comes, *]);rintro e w' ⟨rfl,hat⟩)|(with_reducible refine(zfz ‹_› ?hc).mono ?_;(case hc=>simp [Res.comes, *]);rintro e w' ⟨rfl,hat⟩);have hc8:=zft _ _ _ _ hat;first|rw[zfw] at hc8|rw[zfv] at hc8|skip)|(go_at_call 106;refine(zgx ‹_› _).mono ?_;rintro e w' ⟨n',rfl,hat,hti⟩;have hc8:=zft _ _ _ _ hat;first|rw[zfw] at hc8|rw[zfv] at hc8|skip)|(go_at_call 164;refine(zhd _ ‹_›).mono ?_;rintro e w2 ⟨rfl,hb2⟩;have hat:=At.below ‹_› hb2;have hc8:=zft _ _ _ _ hat;first|rw[zfw] at hc8|rw[zfv] at hc8|skip))
 all_goals(first|(go_roundw;(case rel=>exact(Lq.less zdC ‹_› ‹_› hq).1);(case measure=>exact(Lq.less (n:=n) zdC ‹_› ‹_› hq).2))|(go_end0;exact⟨_,rfl,by assumption⟩)|(go_ret;exact⟨_,rfl,by assumption⟩))):P:=h
theorem zay{P:Prop}(h:P:=by all_goals(first|(go_roundw;(case rel=>exact(Lq.less zdC ‹_› ‹_› hq).1);(case measure=>exact(Lq.less (n:=n) zdC ‹_› ‹_› hq).2))|(go_end0;exact⟨_,rfl,by assumption⟩)|(go_ret;exact⟨_,rfl,by assumption⟩))):P:=h
theorem zaz{P:Prop}(h:P:=by
 replace hy':=Lib.hid hy'
 go_wp2_with (first|(go_at_call 61;first|(refine(zfS ‹_›).mono ?_;rintro e w' ⟨rfl,rfl⟩)|(refine(zfQ ‹_›).mono ?_;rintro e w' ⟨⟨v,_,rfl⟩,rfl⟩))|(go_at_call 153;first|(refine((ih _ ?hk).operand _ _ _ _ _ ‹_› ‹_›).mono ?_;(case hk=>omega);rintro e w' ⟨v,rfl,hat⟩)|(refine(zgm _ _ _ _ _ _ ‹_›).mono ?_;rintro e w' ⟨v,rfl,hat⟩))|(go_at_call 57;first|(refine(zfI ‹_› ‹_›).mono ?_;rintro e w' ⟨rfl,hat⟩)|(refine(zfH ‹_›).mono ?_;rintro e w' ⟨rfl,hat⟩))|(go_at_call 154;first|(refine((ih _ ?hk).period _ _ _ _ _ _ _ ‹_› zev zeY ‹_›).mono ?_;(case hk=>omega);rintro e w' ⟨v,rfl,hat⟩))|(go_at_call 155;first|(refine((ih _ ?hk).index _ _ _ _ _ _ _ ‹_› zev zeY ‹_›).mono ?_;(case hk=>omega);rintro e w' ⟨v,rfl,hat⟩))|(go_at_call 156;first|(refine((ih _ ?hk).call _ _ _ _ _ _ _ ‹_› zev zeY ‹_›).mono ?_;(case hk=>omega);rintro e w' ⟨v,rfl,hat⟩))|(go_at_call 158;refine((ih _ ?hk).values _ _ _ _ _ _ _ _ _ ‹_› zev zez ‹_› ‹_›).mono ?_;(case hk=>omega);rintro e w' ⟨v,rfl,hat⟩)|(go_at_call 157;refine(zjJ ‹_› hgl hgw hlit).mono ?_;rintro e w' ⟨rfl,hat⟩))
 all_goals go_roundw
 case rel=>exact⟨k,by omega,_,by assumption,by assumption,HP⟩
 case measure=>exact Mr.less ‹_› ‹_› HP hq):P:=h
theorem zaA{P:Prop}(h:P:=by
 rw[if_neg h0] at hy2
 by_cases h59:(Res.ok s').kind=59
 ·rw[if_pos h59] at hy2
  obtain⟨y1,hy1,hy2⟩:=bind_some hy2
  replace hy2:=Lib.hid hy2
  have hw1:IntKind.i64.wrap ((c:Int)+1)=(c:Int)+1:=IntWalk.i64_in _ zdC
  go_wp2_with (first
 |(go_at_call 61;first|(refine(zfS ‹_›).mono ?_;rintro e w' ⟨rfl,rfl⟩)|(refine(zfQ ‹_›).mono ?_;rintro e w' ⟨⟨v,_,rfl⟩,rfl⟩))
 |(go_at_call 33;refine(zfO ‹_› _ zeu).mono ?_;rintro e w' ⟨rfl,hat⟩)
 |(go_at_call 57;first|(refine(zfI ‹_› ‹_›).mono ?_;rintro e w' ⟨rfl,hat⟩)|(refine(zfH ‹_›).mono ?_;rintro e w' ⟨rfl,hat⟩))
 |(go_at_call 45;refine(zgu ‹_› _ zeu).mono ?_;rintro e w' ⟨v,rfl,hat⟩)
 |(go_at_call 31;refine(zfZ ‹_› zeu).mono ?_;rintro e w' ⟨v,rfl,hat⟩)
 |(go_at_call 37;refine(zfP _ _ _ _ _ _ _ _ ‹_› zev zez zeu).mono ?_;rintro e w' ⟨v,rfl,hat⟩))
  go_roundw
  case rel=>exact⟨c+1,k,by omega,by go_num,_,by assumption,by assumption⟩
  case measure=>
   rw[hq0]
   have hq1:mpOf C b z2 (.flatL (intOf (.int .i64 ((c:Int)+1))).toNat) w'=mpOf C b z2 (.flatL (c+1)) w':=by simp only[intOf];rw[show((c:Int)+1).toNat=c+1 by omega]
   show mpOf C b z2 (.flatL (intOf (.int .i64 ((c:Int)+1))).toNat) w'<_
   rw[hq1,hq]
   exact Nat.lt_succ_of_le (zgc (P:=Mp C b z2 (.flatL (c+1)) w') ⟨_,by assumption,by assumption⟩).2
 rw[if_neg h59] at hy2
 by_cases h64:(Res.ok s').kind=64
 ·rw[if_pos h64] at hy2
  obtain⟨y1,hy1,hy2⟩:=bind_some hy2
  replace hy2:=Lib.hid hy2
  have hw1:IntKind.i64.wrap ((c:Int) - 1)=(c:Int) - 1:=IntWalk.i64_in _ zdC
  go_wp2_with (first
 |(go_at_call 61;first|(refine(zfS ‹_›).mono ?_;rintro e w' ⟨rfl,rfl⟩)|(refine(zfQ ‹_›).mono ?_;rintro e w' ⟨⟨v,_,rfl⟩,rfl⟩))
 |(go_at_call 33;refine(zfO ‹_› _ zeu).mono ?_;rintro e w' ⟨rfl,hat⟩)
 |(go_at_call 57;first|(refine(zfI ‹_› ‹_›).mono ?_;rintro e w' ⟨rfl,hat⟩)|(refine(zfH ‹_›).mono ?_;rintro e w' ⟨rfl,hat⟩))
 |(go_at_call 45;refine(zgu ‹_› _ zeu).mono ?_;rintro e w' ⟨v,rfl,hat⟩)
 |(go_at_call 31;refine(zfZ ‹_› zeu).mono ?_;rintro e w' ⟨v,rfl,hat⟩)
 |(go_at_call 37;refine(zfP _ _ _ _ _ _ _ _ ‹_› zev zez zeu).mono ?_;rintro e w' ⟨v,rfl,hat⟩))
  go_roundw
  case rel=>exact⟨c - 1,k,by omega,by go_num,_,by assumption,by assumption⟩
  case measure=>
   rw[hq0]
   have hq1:mpOf C b z2 (.flatL (intOf (.int .i64 ((c:Int) - 1))).toNat) w'=mpOf C b z2 (.flatL (c - 1)) w':=by simp only[intOf];rw[show((c:Int) - 1).toNat=c - 1 by omega]
   show mpOf C b z2 (.flatL (intOf (.int .i64 ((c:Int) - 1))).toNat) w'<_
   rw[hq1,hq]
   exact Nat.lt_succ_of_le (zgc (P:=Mp C b z2 (.flatL (c - 1)) w') ⟨_,by assumption,by assumption⟩).2
 rw[if_neg h64] at hy2
 obtain⟨y1,hy1,hy2⟩:=bind_some hy2
 replace hy2:=Lib.hid hy2
 have e0:((Res.ok s').kind == 0)=false:=by simp [*]
 have e59:((Res.ok s').kind == 59)=false:=by simp [*]
 have e64:((Res.ok s').kind == 64)=false:=by simp [*]
 go_wp2_with (first|(go_at_call 61;first|(refine(zfS ‹_›).mono ?_;rintro e w' ⟨rfl,rfl⟩)|(refine(zfQ ‹_›).mono ?_;rintro e w' ⟨⟨v,_,rfl⟩,rfl⟩))|(go_at_call 33;refine(zfO ‹_› _ zeu).mono ?_;rintro e w' ⟨rfl,hat⟩)|(go_at_call 57;first|(refine(zfI ‹_› ‹_›).mono ?_;rintro e w' ⟨rfl,hat⟩)|(refine(zfH ‹_›).mono ?_;rintro e w' ⟨rfl,hat⟩))|(go_at_call 45;refine(zgu ‹_› _ zeu).mono ?_;rintro e w' ⟨v,rfl,hat⟩)|(go_at_call 31;refine(zfZ ‹_› zeu).mono ?_;rintro e w' ⟨v,rfl,hat⟩)|(go_at_call 37;refine(zfP _ _ _ _ _ _ _ _ ‹_› zev zez zeu).mono ?_;rintro e w' ⟨v,rfl,hat⟩))
 go_roundw
 case rel=>exact⟨c,k,by omega,rfl,_,by assumption,by assumption⟩
 case measure=>
  rw[hq0,hq]
  show mpOf C b z2 (.flatL (intOf (.int .i64 (c:Int))).toNat) w'<_
  rw[show mpOf C b z2 (.flatL (intOf (.int .i64 (c:Int))).toNat) w'=mpOf C b z2 (.flatL c) w' by simp [intOf]]
  exact Nat.lt_succ_of_le (zgc (P:=Mp C b z2 (.flatL c) w') ⟨_,by assumption,by assumption⟩).2):P:=h
theorem zaB{P:Prop}(h:P:=by
 go_wp2_with (first|(go_at_call 61;refine(zfS ‹_›).mono ?_;rintro e w' ⟨rfl,rfl⟩)|(go_at_call 31;refine(zfZ ‹_› h1).mono ?_;rintro e w' ⟨v,rfl,hat⟩)|(go_at_call 37;refine(zfP _ _ _ _ _ _ _ _ ‹_› (fun _=>rfl) (fun _=>zoi h) h3).mono ?_;rintro e w' ⟨v,rfl,hat⟩)|((with_reducible refine(HG.out _ _ _ ‹_› h2).mono ?_);rintro e w' ⟨v,rfl,hat⟩)|(go_at_call 57;first|(refine(zfI ‹_› ‹_›).mono ?_;rintro e w' ⟨rfl,hat⟩)|(refine(zfH ‹_›).mono ?_;rintro e w' ⟨rfl,hat⟩))|(go_at_call 83;first|(refine(zfX ‹_› ‹_› ‹_›).mono ?_;rintro e w' ⟨rfl,hat⟩)|(refine(zgb ‹_› ?hno).mono ?_;(case hno=>first|assumption|rfl|simp [*]);rintro e w' ⟨rfl,hat⟩))|((with_reducible refine(HG.out _ ?hk _ _ _ ‹_› ‹_›).mono ?_);(case hk=>omega);rintro e w' ⟨v,rfl,hat⟩)|(go_at_call 33;refine(zfO ‹_› _ (by first|assumption|exact Lib.hid rfl)).mono ?_;rintro e w' ⟨rfl,hat⟩))
 go_end0
 exact⟨_,rfl,by assumption⟩):P:=h
theorem zaC{P:Prop}(h:P:=by
 go_wp2_with (first|(go_at_call 62;first|(refine(zfE ‹_›).mono ?_;rintro e w' ⟨rfl,rfl⟩)|(refine(zfD ‹_›).mono ?_;rintro e w' ⟨⟨v,rfl⟩,rfl⟩))|(go_at_call 160;first|(refine((ih _ ?hk).operand _ _ _ _ _ ‹_› ‹_›).mono ?_;(case hk=>omega);rintro e w' ⟨v,rfl,hat⟩)|(refine(zgG HCL _ _ _ _ _ _ ‹_›).mono ?_;rintro e w' ⟨v,rfl,hat⟩);have hc8:=zft _ _ _ _ hat;first|rw[zfw] at hc8|rw[zfv] at hc8|skip)|(go_at_call 161;first|(refine((ih _ ?hk).period _ _ _ _ _ _ _ ‹_› zev ‹_›).mono ?_;(case hk=>omega);rintro e w' ⟨v,rfl,hat⟩)|(refine(zhp HCL _ _ _ _ _ _ _ ‹_›).mono ?_;rintro e w' ⟨v,rfl,hat⟩);have hc8:=zft _ _ _ _ hat;first|rw[zfw] at hc8|rw[zfv] at hc8|skip)|(go_at_call 162;first|(refine((ih _ ?hk).index _ _ _ _ _ _ _ ‹_› zev ‹_›).mono ?_;(case hk=>omega);rintro e w' ⟨v,rfl,hat⟩)|(refine(zhM HCL _ _ _ _ _ _ _ ‹_›).mono ?_;rintro e w' ⟨v,rfl,hat⟩);have hc8:=zft _ _ _ _ hat;first|rw[zfw] at hc8|rw[zfv] at hc8|skip)|(go_at_call 163;first|(refine((ih _ ?hk).call _ _ _ _ _ _ _ ‹_› zev ‹_›).mono ?_;(case hk=>omega);rintro e w' ⟨v,rfl,hat⟩)|(refine(zih HCL _ _ _ _ _ _ _ ‹_›).mono ?_;rintro e w' ⟨v,rfl,hat⟩);have hc8:=zft _ _ _ _ hat;first|rw[zfw] at hc8|rw[zfv] at hc8|skip)|(go_at_call 165;first|(refine((ih _ ?hk).values _ _ _ _ _ ‹_› ‹_›).mono ?_;(case hk=>omega);rintro e w' ⟨v,rfl,hat⟩)|(refine(zhb HCL _ _ _ _ _ _ ‹_›).mono ?_;rintro e w' ⟨v,rfl,hat⟩);have hc8:=zft _ _ _ _ hat;first|rw[zfw] at hc8|rw[zfv] at hc8|skip)|(go_at_call 38;refine(HCL _ _ _ _ _ _ _ _ ‹_› zev zew).mono ?_;rintro e w' ⟨v,rfl,hat⟩;have hc8:=zft _ _ _ _ hat;first|rw[zfw] at hc8|rw[zfv] at hc8|skip)|(go_at_call 95;first|(with_reducible refine(zfC ‹_› ?hc).mono ?_;(case hc=>simp [Res.comes, *]);rintro e w' ⟨rfl,hat⟩)|(with_reducible refine(zfz ‹_› ?hc).mono ?_;(case hc=>simp [Res.comes, *]);rintro e w' ⟨rfl,hat⟩);have hc8:=zft _ _ _ _ hat;first|rw[zfw] at hc8|rw[zfv] at hc8|skip)|(go_at_call 106;refine(zgx ‹_› _).mono ?_;rintro e w' ⟨n',rfl,hat,hti⟩;have hc8:=zft _ _ _ _ hat;first|rw[zfw] at hc8|rw[zfv] at hc8|skip)|(go_at_call 164;refine(zhd _ ‹_›).mono ?_;rintro e w2 ⟨rfl,hb2⟩;have hat:=At.below ‹_› hb2;have hc8:=zft _ _ _ _ hat;first|rw[zfw] at hc8|rw[zfv] at hc8|skip)|(go_at_call 61;first|(refine(zfS ‹_›).mono ?_;rintro e w' ⟨rfl,rfl⟩)|(refine(zfQ ‹_›).mono ?_;rintro e w' ⟨⟨v,_,rfl⟩,rfl⟩))|(go_at_call 57;first|(refine(zfI ‹_› ‹_›).mono ?_;rintro e w' ⟨rfl,hat⟩)|(refine(zfH ‹_›).mono ?_;rintro e w' ⟨rfl,hat⟩))|(go_at_call 113;first|(refine((ih _ ?hk).unary _ _ _ _ _ _ ‹_› ‹_›).mono ?_;(case hk=>omega);rintro e w' ⟨v,rfl,hat⟩)|(refine(zhk _ _ _ _ _ _ _ ‹_›).mono ?_;rintro e w' ⟨v,rfl,hat⟩))|(go_at_call 31;refine(zfZ ‹_› zeu).mono ?_;rintro e w' ⟨v,rfl,hat⟩)|(go_at_call 71;first|(refine((ih _ ?hk).binary _ _ _ _ _ _ _ ‹_› ‹_›).mono ?_;(case hk=>omega);rintro e w' ⟨v,rfl,hat⟩)|(refine(zhD _ _ _ _ _ _ _ _ ‹_›).mono ?_;rintro e w' ⟨v,rfl,hat⟩))|(go_at_call 37;refine(zfP _ _ _ _ _ _ _ _ ‹_› zev zez zeu).mono ?_;rintro e w' ⟨v,rfl,hat⟩)|(go_at_call 114;refine(zhX _ _).mono ?_;rintro e w' ⟨rfl,rfl⟩)|(go_at_call 33;refine(zfO ‹_› _ zeu).mono ?_;rintro e w' ⟨rfl,hat⟩)|(go_at_call 177;first|(refine(ziw ‹_› ‹_› ‹_› (fun j hj=>ih j zdC)).mono ?_;rintro e w' ⟨v,rfl,hat⟩)|(refine(zhy _ _ _ _ _ _ ‹_›).mono ?_;rintro e w' ⟨v,rfl,hat⟩))|(go_at_call 83;first|(refine(zfX ‹_› ‹_› zeu).mono ?_;rintro e w' ⟨rfl,hat⟩)|(refine(zgb ‹_› ?hno).mono ?_;(case hno=>first|assumption|rfl|simp [*]);rintro e w' ⟨rfl,hat⟩)))
 all_goals(first
 |(go_roundw;(case rel=>exact(Mq.less zdC ‹_› ‹_› hq).1);(case measure=>exact(Mq.less (n:=n) zdC ‹_› ‹_› hq).2))
 |(go_end0;exact⟨_,rfl,by assumption⟩)
 |(go_ret;exact⟨_,rfl,by assumption⟩))):P:=h
theorem zaD{P:Prop}(h:P:=by
 go_enter Tryz.func128,Tryz.ntmps128
 go_wp2_with (first|(go_at_call 57;first|(refine(zfI ‹_› ‹_›).mono ?_;rintro e w' ⟨rfl,hat⟩)|(refine(zfH ‹_›).mono ?_;rintro e w' ⟨rfl,hat⟩))|(go_at_call 59;first|((with_reducible refine(zrr ‹_› ‹_›).mono ?_);rintro e w' ⟨rfl,hat⟩)|((with_reducible refine(zlS ‹_›).mono ?_);rintro e w' ⟨rfl,hat⟩)|((with_reducible refine(zrS ‹_› ‹_›).mono ?_);rintro e w' ⟨rfl,hat⟩)|((with_reducible refine(zmj ‹_›).mono ?_);rintro e w' ⟨rfl,hat⟩))|(go_at_call 144;refine(zmM ‹_› ‹_›).mono ?_;rintro e w' ⟨rfl,hat⟩))
 go_ret
 exact⟨by first|(rw[HX];done)|(rw[HX];rfl)|(rw[HX];simp [*];done),by assumption⟩):P:=h
theorem zaE{P:Prop}(h:P:=by
 go_wp2_with (first
 |(go_at_call 62;first|(refine(zfE ‹_›).mono ?_;rintro e w' ⟨rfl,rfl⟩)|(refine(zfD ‹_›).mono ?_;rintro e w' ⟨⟨v,rfl⟩,rfl⟩))
 |(go_at_call 34;refine(zfG ‹_› _ zeu).mono ?_;rintro e w' ⟨rfl,hat⟩;have hc8:=zft _ _ _ _ hat;first|rw[zfw] at hc8|rw[zfv] at hc8|skip)
 |(go_at_call 58;first|(refine(zgT ‹_› ‹_›).mono ?_;rintro e w' ⟨rfl,rfl⟩)|(refine(zgN ‹_›).mono ?_;rintro e w' ⟨rfl,rfl⟩))
 |(go_at_call 46;refine(zgw ‹_› _ zeu).mono ?_;rintro e w' ⟨v,rfl,hat⟩;have hc8:=zft _ _ _ _ hat;first|rw[zfw] at hc8|rw[zfv] at hc8|skip)
 |(go_at_call 32;refine(zfK ‹_› zeu).mono ?_;rintro e w' ⟨v,rfl,hat⟩;have hc8:=zft _ _ _ _ hat;first|rw[zfw] at hc8|rw[zfv] at hc8|skip)
 |(go_at_call 38;refine(HCL _ _ _ _ _ _ _ _ ‹_› zev zeu).mono ?_;rintro e w' ⟨v,rfl,hat⟩;have hc8:=zft _ _ _ _ hat;first|rw[zfw] at hc8|rw[zfv] at hc8|skip))):P:=h
theorem zaF{P:Prop}(h:P:=by
 go_enter Tryz.func172,Tryz.ntmps172
 go_wp2_with (go_at_call 188;refine(zvE s _ _ _ _ zdC zdC zdC).mono ?_;rintro e w' ⟨rfl,rfl⟩)
 go_ret
 exact⟨rfl,rfl⟩):P:=h
theorem zaG{P:Prop}(h:P:=by
 replace hz:=Lib.hid hz
 cases z with
 |fail d0 d1 d2=>
  obtain rfl:=hzz _ _ _ rfl
  have hk0:(Res.fail d0 d1 d2).kind=0:=rfl
  clear hzz hyy
  go_wp2_with (first|(go_at_call 62;first|(refine(zfE ‹_›).mono ?_;rintro e w' ⟨rfl,rfl⟩)|(refine(zfD ‹_›).mono ?_;rintro e w' ⟨⟨v,rfl⟩,rfl⟩))|(go_at_call 32;refine(zfK ‹_› zew).mono ?_;rintro e w' ⟨v,rfl,hat⟩)|(go_at_call 51;first|(refine((ih _ ?hk).type _ _ _ _ _ ‹_› ‹_›).mono ?_;(case hk=>omega);rintro e w' ⟨v,rfl,hat⟩)|(refine(zgo HCL _ _ _ _ _ _ ‹_›).mono ?_;rintro e w' ⟨v,rfl,hat⟩))|(go_at_call 38;refine(HCL _ _ _ _ _ _ _ _ ‹_› zev zew).mono ?_;rintro e w' ⟨v,rfl,hat⟩)|(go_at_call 95;first|(with_reducible refine(zfC ‹_› ?hc).mono ?_;(case hc=>simp [Res.comes, *]);rintro e w' ⟨rfl,hat⟩)|(with_reducible refine(zfz ‹_› ?hc).mono ?_;(case hc=>simp [Res.comes, *]);rintro e w' ⟨rfl,hat⟩)))
  go_ret2
  exact⟨_,_,rfl,by assumption,fun e=>by cases e⟩
 |ok s'=>
  rcases hyy _ rfl with⟨h26,u,hu,z3,hz3,hy3⟩|⟨h26,e⟩
  ·have E26:=Lib.hid ((beq_iff_eq (a:=(Res.ok s').kind) (b:=26)).2 h26)
   clear hzz hyy
   go_wp2_with (first|(go_at_call 62;first|(refine(zfE ‹_›).mono ?_;rintro e w' ⟨rfl,rfl⟩)|(refine(zfD ‹_›).mono ?_;rintro e w' ⟨⟨v,rfl⟩,rfl⟩))|(go_at_call 32;refine(zfK ‹_› zew).mono ?_;rintro e w' ⟨v,rfl,hat⟩)|(go_at_call 51;first|(refine((ih _ ?hk).type _ _ _ _ _ ‹_› ‹_›).mono ?_;(case hk=>omega);rintro e w' ⟨v,rfl,hat⟩)|(refine(zgo HCL _ _ _ _ _ _ ‹_›).mono ?_;rintro e w' ⟨v,rfl,hat⟩))|(go_at_call 38;refine(HCL _ _ _ _ _ _ _ _ ‹_› zev zew).mono ?_;rintro e w' ⟨v,rfl,hat⟩)|(go_at_call 95;first|(with_reducible refine(zfC ‹_› ?hc).mono ?_;(case hc=>simp [Res.comes, *]);rintro e w' ⟨rfl,hat⟩)|(with_reducible refine(zfz ‹_› ?hc).mono ?_;(case hc=>simp [Res.comes, *]);rintro e w' ⟨rfl,hat⟩)))
   go_roundw
   case rel=>exact(AG.out _ _ _ E26.out ‹_› hz3 hy3).1
   case measure=>exact(AG.out _ _ _ E26.out ‹_› hz3 hy3).2
  ·have E26:=Lib.hid (beq_eq_false_iff_ne.2 h26)
   have EE:=Lib.hid e
   clear hzz hyy e
   go_wp2_with (first|(go_at_call 62;first|(refine(zfE ‹_›).mono ?_;rintro e w' ⟨rfl,rfl⟩)|(refine(zfD ‹_›).mono ?_;rintro e w' ⟨⟨v,rfl⟩,rfl⟩))|(go_at_call 32;refine(zfK ‹_› zew).mono ?_;rintro e w' ⟨v,rfl,hat⟩)|(go_at_call 51;first|(refine((ih _ ?hk).type _ _ _ _ _ ‹_› ‹_›).mono ?_;(case hk=>omega);rintro e w' ⟨v,rfl,hat⟩)|(refine(zgo HCL _ _ _ _ _ _ ‹_›).mono ?_;rintro e w' ⟨v,rfl,hat⟩))|(go_at_call 38;refine(HCL _ _ _ _ _ _ _ _ ‹_› zev zew).mono ?_;rintro e w' ⟨v,rfl,hat⟩)|(go_at_call 95;first|(with_reducible refine(zfC ‹_› ?hc).mono ?_;(case hc=>simp [Res.comes, *]);rintro e w' ⟨rfl,hat⟩)|(with_reducible refine(zfz ‹_› ?hc).mono ?_;(case hc=>simp [Res.comes, *]);rintro e w' ⟨rfl,hat⟩)))
   go_ret2
   exact FN.out _ _ E51.out E26.out ‹_› EE.out):P:=h
theorem zaH{P:Prop}(h:P:=by
 clear HE
 go_enter Tryz.func150,Tryz.ntmps150
 go_wp2_with (go_at_call 167;refine(row_b _ _ _ _ hxl zdD).mono ?_;rintro e w' ⟨rfl,rfl⟩;rw[HR.out])
 go_ret3
 exact⟨by rw[HF.out];rfl,Below.refl _ _⟩):P:=h
theorem zaI{P:Prop}(h:P:=by
 go_enter Tryz.func134,Tryz.ntmps134
 go_wp2_with (first|(go_at_call 146;refine(H2.out _).mono ?_;rintro e W ⟨rfl,hbW⟩;have HF:=Lib.hid ((zgR w (.int .i64 0) (.int .i64 (i:Int)) (.int .i64 ((i:Int)+1)) (.int .i64 0) (.int .i64 (i:Int)) (.int .i64 0)).then hbW);obtain⟨⟨⟨u0,u1,u2,u3,u4,u5,k0,k1,k2,k3,k4,k5⟩,f0,f1,f2,f3,f4,f5⟩,x0,x1,x2,y0,y1,y2,⟨⟨g0,g1,g2⟩,g3,g4,g5⟩,_⟩:=HF.out;clear hbW)|(go_at_call 147;refine(H6.out _).mono ?_;rintro e w' ⟨rfl,rfl⟩)|(go_at_call 148;refine(H7.out _).mono ?_;rintro e w' ⟨rfl,rfl⟩)|(go_at_call 135;refine(HFI.out _).mono ?_;rintro e W2 ⟨rfl,hb2⟩;have HG:=Lib.hid ((HF.out.set0 (.int .i64 14)).then hb2);clear k0 k1 k2 k3 k4 k5 f0 f1 f2 f3 f4 f5 x0 x1 x2 y0 y1 y2 g0 g1 g2 g3 g4 g5;clear hb2;obtain⟨⟨⟨u0,u1,u2,u3,u4,u5,k0,k1,k2,k3,k4,k5⟩,f0,f1,f2,f3,f4,f5⟩,x0,x1,x2,y0,y1,y2,⟨⟨g0,g1,g2⟩,g3,g4,g5⟩,_⟩:=HG.out))
 go_region
 go_wp2_with fail
 exact bodyPost_ret (zfT Tryz.results134 _ zfi (.int .i64 14) (.int .i64 (i:Int)) (.int .i64 (t:Int)) (.int .i64 106) (.int .i64 (i:Int)) (.int .i64 (t:Int)) rfl rfl) rfl (Told.mk' (x:=(i:Int)) (y:=(t:Int)) (by rw[HW.out,show((i:Int)+((wrong 14 (s.size - i) 106).width:Int))=(t:Int) by have:=HE.out;simp only[wrong];omega];rfl) zfr (zfU zfl (Nat.le_refl _) _ _ _ _ _ _).drew)):P:=h
theorem zaJ{P:Prop}(h:P:=by
 go_enter Tryz.func134,Tryz.ntmps134
 go_wp2_with (first|(go_at_call 146;refine(H2.out _).mono ?_;rintro e W ⟨rfl,hbW⟩;have HF:=Lib.hid ((zgR w (.int .i64 0) (.int .i64 (i:Int)) (.int .i64 ((i:Int)+1)) (.int .i64 0) (.int .i64 (i:Int)) (.int .i64 0)).then hbW);obtain⟨⟨⟨u0,u1,u2,u3,u4,u5,k0,k1,k2,k3,k4,k5⟩,f0,f1,f2,f3,f4,f5⟩,x0,x1,x2,y0,y1,y2,⟨⟨g0,g1,g2⟩,g3,g4,g5⟩,_⟩:=HF.out;clear hbW)|(go_at_call 147;refine(H6.out _).mono ?_;rintro e w' ⟨rfl,rfl⟩)|(go_at_call 148;refine(H7.out _).mono ?_;rintro e w' ⟨rfl,rfl⟩)|(go_at_call 135;refine(HFI.out _).mono ?_;rintro e W2 ⟨rfl,hb2⟩;have HG:=Lib.hid ((HF.out.set0 (.int .i64 14)).then hb2);clear k0 k1 k2 k3 k4 k5 f0 f1 f2 f3 f4 f5 x0 x1 x2 y0 y1 y2 g0 g1 g2 g3 g4 g5;clear hb2;obtain⟨⟨⟨u0,u1,u2,u3,u4,u5,k0,k1,k2,k3,k4,k5⟩,f0,f1,f2,f3,f4,f5⟩,x0,x1,x2,y0,y1,y2,⟨⟨g0,g1,g2⟩,g3,g4,g5⟩,_⟩:=HG.out))
 go_region
 go_wp2_with fail
 exact bodyPost_ret (zfT Tryz.results134 _ zfi (.int .i64 14) (.int .i64 (i:Int)) (.int .i64 ((t:Int)+1:Int)) (.int .i64 0) (.int .i64 (i:Int)) (.int .i64 ((t:Int)+1:Int)) rfl rfl) rfl (Told.mk' (x:=(i:Int)) (y:=((t:Int)+1:Int)) (by rw[HW.out,show((i:Int)+((right 14 (t+1 - i)).width:Int))=((t:Int)+1:Int) by have:=HE.out;simp only[right];omega];rfl) zdZ (zfU zfl (Nat.le_refl _) _ _ _ _ _ _).drew)):P:=h
theorem zaK{P:Prop}(h:P:=by
 have ih:=zhr n
 rw[run] at hy
 try dsimp only at hy
 iterate 16 (all_goals try(first|split at hy|(rw[zfu] at hy;obtain⟨z,hz,hy⟩:=hy;try(rw[zfF] at hz;subst hz))))
 all_goals(first|(obtain rfl:=Option.some.inj hy)|(replace hy:=Lib.hid hy))
 all_goals first|exact .inl ⟨_,_,_,rfl⟩|(with_reducible exact .inl (zwp ‹_›))|(refine .inr ⟨_,_,?_,by assumption,by decide⟩;((repeat (first|assumption|exact Kp.fail _ _ _|(with_reducible refine zpv ih ‹_› ?_)|(with_reducible exact zmL ‹_›)|((with_reducible refine zhW ‹_› ?_ ?_);focus omega)|(with_reducible refine zgr ‹_› ?_)|(with_reducible refine zmJ ‹_› ?_)|(with_reducible refine zgk ‹_› ?_)|(with_reducible refine zli ‹_› ?_)|(with_reducible refine zvM ‹_› ?_)|(with_reducible refine ziP ‹_› ?_)|(with_reducible refine zjf ‹_› ?_)|((with_reducible refine zgt ih ‹_› ?_ ?_);focus (intro m0 hm0;cases hm0 <;> assumption))|((with_reducible refine znl ‹_› ?_ ?_ ?_);focus (intro hb;first|(exact absurd hb ‹_›)|skip;repeat (first|exact hb|(with_reducible refine zqL ‹_› ?_)|(with_reducible refine zkC ‹_› ?_)|(with_reducible refine zpE ‹_› ?_)|(with_reducible refine zqF ‹_› ?_)|(with_reducible refine zqS ‹_› ?_)|(with_reducible refine zkO ‹_› ?_)|(with_reducible refine ztS ‹_› ?_))))))))):P:=h
theorem zaL{P:Prop}(h:P:=by
 go_enter Tryz.func134,Tryz.ntmps134
 go_wp2_with (first|(go_at_call 146;refine(H2.out _).mono ?_;rintro e W ⟨rfl,hbW⟩;have HF:=Lib.hid ((zgR w (.int .i64 0) (.int .i64 (i:Int)) (.int .i64 ((i:Int)+1)) (.int .i64 0) (.int .i64 (i:Int)) (.int .i64 0)).then hbW);obtain⟨⟨⟨u0,u1,u2,u3,u4,u5,k0,k1,k2,k3,k4,k5⟩,f0,f1,f2,f3,f4,f5⟩,x0,x1,x2,y0,y1,y2,⟨⟨g0,g1,g2⟩,g3,g4,g5⟩,_⟩:=HF.out;clear hbW)|(go_at_call 135;refine(HFI.out _).mono ?_;rintro e W2 ⟨rfl,hb2⟩;have HG:=Lib.hid ((HF.out.set0 (.int .i64 4)).then hb2);clear k0 k1 k2 k3 k4 k5 f0 f1 f2 f3 f4 f5 x0 x1 x2 y0 y1 y2 g0 g1 g2 g3 g4 g5;clear hb2;obtain⟨⟨⟨u0,u1,u2,u3,u4,u5,k0,k1,k2,k3,k4,k5⟩,f0,f1,f2,f3,f4,f5⟩,x0,x1,x2,y0,y1,y2,⟨⟨g0,g1,g2⟩,g3,g4,g5⟩,_⟩:=HG.out))
 go_region
 go_wp2_with fail
 exact bodyPost_ret (zfT Tryz.results134 _ zfi (.int .i64 4) (.int .i64 (i:Int)) (.int .i64 (t:Int)) (.int .i64 105) (.int .i64 (i:Int)) (.int .i64 (t:Int)) rfl rfl) rfl (Told.mk' (x:=(i:Int)) (y:=(t:Int)) (by rw[HW.out,show((i:Int)+((wrong 4 (s.size - i) 105).width:Int))=(t:Int) by have:=HE.out;simp only[wrong];omega];rfl) zfr (zfU zfl (Nat.le_refl _) _ _ _ _ _ _).drew)):P:=h
theorem zaM{P:Prop}(h:P:=by
 go_enter Tryz.func134,Tryz.ntmps134
 go_wp2_with (first|(go_at_call 146;refine(H2.out _).mono ?_;rintro e W ⟨rfl,hbW⟩;have HF:=Lib.hid ((zgR w (.int .i64 0) (.int .i64 (i:Int)) (.int .i64 ((i:Int)+1)) (.int .i64 0) (.int .i64 (i:Int)) (.int .i64 0)).then hbW);obtain⟨⟨⟨u0,u1,u2,u3,u4,u5,k0,k1,k2,k3,k4,k5⟩,f0,f1,f2,f3,f4,f5⟩,x0,x1,x2,y0,y1,y2,⟨⟨g0,g1,g2⟩,g3,g4,g5⟩,_⟩:=HF.out;clear hbW)|(go_at_call 135;refine(HFI.out _).mono ?_;rintro e W2 ⟨rfl,hb2⟩;have HG:=Lib.hid ((HF.out.set0 (.int .i64 4)).then hb2);clear k0 k1 k2 k3 k4 k5 f0 f1 f2 f3 f4 f5 x0 x1 x2 y0 y1 y2 g0 g1 g2 g3 g4 g5;clear hb2;obtain⟨⟨⟨u0,u1,u2,u3,u4,u5,k0,k1,k2,k3,k4,k5⟩,f0,f1,f2,f3,f4,f5⟩,x0,x1,x2,y0,y1,y2,⟨⟨g0,g1,g2⟩,g3,g4,g5⟩,_⟩:=HG.out))
 go_region
 go_wp2_with fail
 exact bodyPost_ret (zfT Tryz.results134 _ zfi (.int .i64 4) (.int .i64 (i:Int)) (.int .i64 ((t:Int)+2:Int)) (.int .i64 0) (.int .i64 (i:Int)) (.int .i64 ((t:Int)+2:Int)) rfl rfl) rfl (Told.mk' (x:=(i:Int)) (y:=((t:Int)+2:Int)) (by rw[HW.out,show((i:Int)+((right 4 (t+2 - i)).width:Int))=((t:Int)+2:Int) by have:=HE.out;simp only[right];omega];rfl) zdZ (zfU zfl (Nat.le_refl _) _ _ _ _ _ _).drew)):P:=h
theorem zaN{P:Prop}(h:P:=by
 obtain⟨rfl,hcell,hb⟩:=hcut
 have hrc:=HR.out.below hb
 have y0:wc.cell? ⟨wr.heap.size,0,none⟩=some (.int .i64 z):=by rw[cell_of_row wc _ 0 _ _ _ hcell];rfl
 have y1:wc.cell? ⟨wr.heap.size,1,none⟩=some (.int .i64 x1):=by rw[cell_of_row wc _ 1 _ _ _ hcell];rfl
 have y2:wc.cell? ⟨wr.heap.size,2,none⟩=some (.int .i64 x2):=by rw[cell_of_row wc _ 2 _ _ _ hcell];rfl
 have hnL:n<σ.L.length:=by have:=HP.out;have:=HLN.out;omega
 have hlr:(σ.run n).R.length≤1099511627776:=by
  have:=HHR.out
  simp only[Rd.run,List.length_append,List.length_map,List.length_take,List.length_drop]
  omega
 have hlh:(σ.run n).H.length≤1099511627776:=by
  have:=HHH.out
  simp only[Rd.run,List.length_append,List.length_replicate]
  omega
 have hpu:Calls Tryz.prog 67 #[.pointer (some ⟨b,0,none⟩),.agg #[.int .i64 z,.int .i64 x1,.int .i64 x2,.slice none 0 0],.int .i64 0] wc (Steps wc b (.slice (some ⟨gL,0,none⟩) len capL) vR1 vH1 { σ.run n with R:=(σ.run n).R ++ [leaf ⟨z,x1,x2⟩],H:=(σ.run n).H ++ [0] }):=zkg hrc (leaf ⟨z,x1,x2⟩) 0 hlr hlh
 have HPU:=Lib.hid hpu
 have HB:=Lib.hid hb
 clear hpu hlr hlh hrc hcell hb hnL
 go_wp2_with (go_at_call 67;refine HPU.out.mono ?_;rintro e w3 ⟨v,vR2,vH2,rfl,hr3,hn3⟩;have HR3:=Lib.hid hr3;have HN3:=Lib.hid hn3;obtain⟨⟨_,d1,_,_,_,_,_,_,_⟩,hfz3⟩:=zgd hr3.cells;replace d1:w3.cell? ⟨b,1,none⟩=some (.int .i64 (p:Int)):=(by rw[← HP.out];exact d1);have f1':=hfz3 1;clear hr3 hn3 hfz3)
 go_roundw
 case rel=>
  have hs:∀ k,k<w3.heap.size→k≠b→(w3.setCell ⟨b,1,none⟩ (.int .i64 ((p:Int)+1))).heap[k]? = w3.heap[k]?:=fun k _ hk=>zfy _ _ _ _ _ hk
  refine⟨n+1,vR2,vH2,by have:=HP.out;have:=HLP.out;omega,?_,HN.out.trans ((Nx.below HB.out).trans (HN3.out.trans (Nx.own rfl rfl rfl zdI hs)))⟩
  obtain rfl:=HP.out
  have hlT:σ.at'+n<σ.L.length:=by rw[HLN.out];exact hpl
  have htk:σ.L[σ.at'+n]=⟨z,x1,x2⟩:=HTK.out
  rw[Rd.run_succ _ _ hlT,htk]
  refine HR3.out.put hs ?_ rfl rfl rfl (by show σ.at'+(n+1)≤σ.L.length;omega)
  have:=heap_setCell_same w3 b 1 _ _ (.int .i64 (((σ.at'+n:Nat):Int)+1)) HR3.out.cells
  rw[this]
  show _=some (Obj.cells #[_,.int .i64 ((σ.at'+(n+1):Nat):Int),_,_,_,_,_,_,_] _ _)
  rw[show((σ.at'+(n+1):Nat):Int)=((σ.at'+n:Nat):Int)+1 by omega]
  rfl
 case measure=>
  have e1:(w3.setCell ⟨b,1,none⟩ (.int .i64 ((p:Int)+1))).cell? ⟨b,1,none⟩=some (.int .i64 ((p:Int)+1)):=by rw[cell_of_row _ b 1 _ _ _ (heap_setCell_same w3 b 1 _ _ _ HR3.out.cells)];rfl
  rw[e1,b1]
  simp only[Option.getD_some,intOf]
  have:=HLP.out
  omega):P:=h
theorem zaO{P:Prop}(h:P:=by
 clear hm1 hb1 hlen
 obtain⟨N,x1,y,hN,h1,h2⟩:=zrY T (by have:=HLEN.out;omega)
 obtain⟨d0,d1,d2,hyd⟩:∃ d0 d1 d2,y.diag=(d0,d1,d2):=⟨_,_,_,rfl⟩
 obtain⟨ok,hyo⟩:∃ ok,(!y.bad)=ok:=⟨_,rfl⟩
 have HYY:=Lib.hid (And.intro hyd hyo)
 clear hyd hyo
 have HP:=Lib.hid (zrQ hN HM1.out.row (by have:=HLEN.out;omega) h1 h2)
 go_wp2_with fail
 go_at_call 18
 refine HP.out.mono ?_
 rintro e w2 ⟨⟨nk,ni,nj,no,nn,nc⟩,D,rfl,hb2,ht2,hD2⟩
 rw[HYY.out.1,HYY.out.2]
 dsimp only [tells,Rn.v]
 obtain⟨W2,hW2,hbw,hx0,hx1⟩:=zmz w2 nk ni nj no nn nc d0 d1 d2
 have HX2:=Lib.hid (And.intro hx0 hx1)
 have ht2:=ht2.below hD2 hbw
 have hD2:OfNodes W2 D:=fun k hk=>by rw[hbw.block k (hD2.lt k hk)];exact hD2 k hk
 have hb2:=hb2.trans (hbw.mono hb2.size)
 have hr2:=HM1.out.row.below hb2
 have HB2:=Lib.hid (HB1.out.trans (hb2.mono HB1.out.size))
 have HM2:=Lib.hid (And.intro ht2 hD2)
 have HRP:=Lib.hid (zoT hN hr2 (by have:=HLEN.out;omega) h1 h2)
 clear ht2 hD2 hb2 hbw hx0 hx1 hr2
 go_wp2_with fail
 go_at_call 19
 refine HRP.out.mono ?_
 rintro e w4 ⟨⟨mk,mi,mj,mo,mn,mc⟩,D4,rfl,hb4,ht4,hD4⟩
 rw[HYY.out.1,HYY.out.2]
 dsimp only [tells,Rn.v]
 obtain⟨ht3,hD3⟩:=HM2.out
 obtain⟨W5,hW5,hbw,hy0,hy1⟩:=zmz w4 mk mi mj mo mn mc d0 d1 d2
 have hb5:=hb4.trans (hbw.mono hb4.size)
 have HSAME:=Lib.hid (zsY y.tree W5 D D4 _ _ (ht3.below hD3 hb5) (fun k hk=>by rw[hb5.block k (hD3.lt k hk)];exact hD3 k hk) (ht4.below hD4 hbw) (fun k hk=>by rw[hbw.block k (hD4.lt k hk)];exact hD4 k hk))
 have HB4:=Lib.hid (HB2.out.trans (hb5.mono HB2.out.size))
 obtain⟨hx0,hx1⟩:=HX2.out
 obtain⟨⟨n0,n1,n2,n3⟩,fn⟩:=zhn ((hb5.block _ (Array.getElem?_eq_some_iff.1 hx0).1).trans hx0)
 obtain⟨⟨e0,e1,e2⟩,fe⟩:=zfR ((hb5.block _ (Array.getElem?_eq_some_iff.1 hx1).1).trans hx1)
 obtain⟨⟨m0,m1,m2,m3⟩,fm⟩:=zhn hy0
 obtain⟨⟨f0,f1,f2⟩,ff⟩:=zfR hy1
 have HE:=Lib.hid (And.intro hy0 (And.intro hy1 ((hb5.block _ (Array.getElem?_eq_some_iff.1 hx1).1).trans hx1)))
 dsimp only [Rn.v] at HSAME
 clear ht3 hD3 hb4 ht4 hD4 hb5 hbw hx0 hx1 hy0 hy1
 go_wp2_with fail
 go_at_call 20
 refine HSAME.out.mono ?_
 rintro e w6 ⟨rfl,hb6⟩
 have HB6:=Lib.hid (HB4.out.trans (hb6.mono HB4.out.size))
 obtain⟨hy0,hy1,hx1⟩:=HE.out
 obtain⟨⟨e0,e1,e2⟩,fe⟩:=zfR ((hb6.block _ (Array.getElem?_eq_some_iff.1 hx1).1).trans hx1)
 obtain⟨⟨f0,f1,f2⟩,ff⟩:=zfR ((hb6.block _ (Array.getElem?_eq_some_iff.1 hy1).1).trans hy1)
 clear hy0 hy1 hx1 hb6
 go_wp2_with fail
 go_ret
 exact⟨rfl,HB6.out⟩):P:=h
theorem zaP{P:Prop}(h:P:=by
 go_wp2_with (first|(go_at_call 41;refine(zim ‹_› ‹_›).mono ?_;rintro e w' ⟨rfl,hat⟩;have hc:=HBX.out _ _ hat)|((go_at_call 57;first|(refine(zfI ‹_› ‹_›).mono ?_;rintro e w' ⟨rfl,hat⟩)|(refine(zfH ‹_›).mono ?_;rintro e w' ⟨rfl,hat⟩));have hc:=HBX.out _ _ hat)|((go_at_call 45;refine(zgu ‹_› _ zeu).mono ?_;rintro e w' ⟨v,rfl,hat⟩);have hc:=HBX.out _ _ hat)|((go_at_call 43;refine(zmx ‹_› zeu).mono ?_;rintro e w' ⟨v,rfl,hat⟩);have hc:=HBX.out _ _ hat)|((go_at_call 72;refine(zqy ‹_› ‹_› ‹_› (fun j hj=>ih j zdC)).mono ?_;rintro e w' ⟨v,rfl,hat⟩);have hc:=HBX.out _ _ hat)|((go_at_call 73;(with_reducible refine(zgF (C:=C1) (A:=#[]) (B:=#[.pointer (some ⟨w.heap.size,0,none⟩)]) (g:=fun r=>run n .type r >>= fun u=>rExpect 62 u) zoe HF1.out ‹_› ‹_› (Lib.hid h62) ‹_›).mono ?_);rintro e w' ⟨v,rfl,hat⟩);have hc:=HBX.out _ _ hat))
 all_goals(first|go_end0|go_ret)
 all_goals exact⟨_,rfl,HBK.out _ _ ‹_›⟩):P:=h
theorem zaQ{P:Prop}(h:P:=by
 go_enter Tryz.func134,Tryz.ntmps134
 go_wp2_with (first|(go_at_call 146;refine(H2.out _).mono ?_;rintro e W ⟨rfl,hbW⟩;have HF:=Lib.hid ((zgR w (.int .i64 0) (.int .i64 (i:Int)) (.int .i64 ((i:Int)+1)) (.int .i64 0) (.int .i64 (i:Int)) (.int .i64 0)).then hbW);obtain⟨⟨⟨u0,u1,u2,u3,u4,u5,k0,k1,k2,k3,k4,k5⟩,f0,f1,f2,f3,f4,f5⟩,x0,x1,x2,y0,y1,y2,⟨⟨g0,g1,g2⟩,g3,g4,g5⟩,_⟩:=HF.out;clear hbW)|(go_at_call 135;refine(HFI.out _).mono ?_;rintro e w' ⟨rfl,rfl⟩))
 go_region
 go_wp2_with fail
 exact bodyPost_ret (zfT Tryz.results134 _ zeq (.int .i64 3) (.int .i64 (i:Int)) (.int .i64 (t:Int)) (.int .i64 0) (.int .i64 (i:Int)) (.int .i64 (t:Int)) rfl rfl) rfl (Told.mk' (x:=(i:Int)) (y:=(t:Int)) (by rw[HW.out,show((i:Int)+((right 3 (runL noFeed (s.data.toList.drop i))).width:Int))=(t:Int) by have:=HE.out;simp only[right];omega];rfl) zdZ (zfU zer (Nat.le_refl _) _ _ _ _ _ _).drew)):P:=h
theorem zaR{P:Prop}(h:P:=by
 go_wp2_with (first|(go_at_call 83;first|(refine(zfX ‹_› ‹_› ‹_›).mono ?_;rintro e w' ⟨rfl,hat⟩)|(refine(zgb ‹_› ?hno).mono ?_;(case hno=>first|assumption|rfl|simp [*]);rintro e w' ⟨rfl,hat⟩))|(go_at_call 57;first|(refine(zfI ‹_› ‹_›).mono ?_;rintro e w' ⟨rfl,hat⟩)|(refine(zfH ‹_›).mono ?_;rintro e w' ⟨rfl,hat⟩))|((with_reducible refine(HG.out _ ?hk _ _ _ ‹_› ‹_›).mono ?_);(case hk=>omega);rintro e w' ⟨v,rfl,hat⟩))
 go_roundw
 case rel=>exact(Mq.less zdC ‹_› ‹_› hq).1
 case measure=>exact(Mq.less (n:=n) zdC ‹_› ‹_› hq).2):P:=h
theorem zaS{P:Prop}(h:P:=by
 iterate 16 (all_goals try(first|split at hy|(rw[zfu] at hy;obtain⟨z,hz,hy⟩:=hy;try(rw[zfF] at hz;subst hz))))
 all_goals(first|(obtain rfl:=Option.some.inj hy)|(replace hy:=Lib.hid hy))
 iterate 2 (all_goals try(rename _∧_=>ho;obtain⟨_,_⟩:=ho))
 iterate 7 (all_goals try(rename _∨_=>ho;rcases ho with ho|ho))
 all_goals(repeat (rename ¬ (_∨_)=>ho;rw[not_or] at ho;obtain⟨_,_⟩:=ho))
 all_goals(try(rename Res.kind _=56=>hk56;obtain⟨t,rfl⟩:=zhl hk56 zdD))
 all_goals go_enter Tryz.func105,Tryz.ntmps105
 all_goals go_wp2_with (first|(go_at_call 48;refine(zgW HCL ‹_› zew).mono ?_;rintro e w' ⟨v,rfl,hat⟩)|(go_at_call 62;first|(refine(zfE ‹_›).mono ?_;rintro e w' ⟨rfl,rfl⟩)|(refine(zfD ‹_›).mono ?_;rintro e w' ⟨⟨v,rfl⟩,rfl⟩))|(go_at_call 32;refine(zfK ‹_› zew).mono ?_;rintro e w' ⟨v,rfl,hat⟩)|(go_at_call 51;first|(refine((ih _ ?hk).type _ _ _ _ _ ‹_› ‹_›).mono ?_;(case hk=>omega);rintro e w' ⟨v,rfl,hat⟩)|(refine(zgo HCL _ _ _ _ _ _ ‹_›).mono ?_;rintro e w' ⟨v,rfl,hat⟩))|(go_at_call 38;refine(HCL _ _ _ _ _ _ _ _ ‹_› zev zew).mono ?_;rintro e w' ⟨v,rfl,hat⟩)|(go_at_call 95;first|(with_reducible refine(zfC ‹_› ?hc).mono ?_;(case hc=>simp [Res.comes, *]);rintro e w' ⟨rfl,hat⟩)|(with_reducible refine(zfz ‹_› ?hc).mono ?_;(case hc=>simp [Res.comes, *]);rintro e w' ⟨rfl,hat⟩))|(go_at_call 133;refine(zlW ‹_›).mono ?_;rw[HNM.out];rintro e w' ⟨rfl,hat⟩))
 all_goals go_ret
 all_goals exact⟨by rw[HNM.out];rfl,by assumption⟩):P:=h
theorem zaT{P:Prop}(h:P:=by
 go_enter Tryz.func134,Tryz.ntmps134
 go_wp2_with (go_at_call 146;refine(H2.out _).mono ?_;rintro e W ⟨rfl,hbW⟩;have HF:=Lib.hid ((zgR w (.int .i64 0) (.int .i64 (i:Int)) (.int .i64 ((i:Int)+1)) (.int .i64 0) (.int .i64 (i:Int)) (.int .i64 0)).then hbW);obtain⟨⟨⟨u0,u1,u2,u3,u4,u5,k0,k1,k2,k3,k4,k5⟩,f0,f1,f2,f3,f4,f5⟩,x0,x1,x2,y0,y1,y2,⟨⟨g0,g1,g2⟩,g3,g4,g5⟩,_⟩:=HF.out;clear hbW)
 go_region
 go_wp2_with fail
 exact bodyPost_ret (zfT Tryz.results134 _ zeq (.int .i64 2) (.int .i64 (i:Int)) (.int .i64 ((i:Int)+1)) (.int .i64 0) (.int .i64 (i:Int)) (.int .i64 ((i:Int)+1)) rfl rfl) rfl (Told.mk' (x:=(i:Int)) (y:=((i:Int)+1)) zdY zdZ (zfU zer (Nat.le_refl _) _ _ _ _ _ _).drew)):P:=h
theorem zaU{P:Prop}(h:P:=by
 refine(ziY hAu s.R[c] nn hh htu hhb hN).mono ?_
 rintro e' w' ⟨v,rfl,hA'⟩
 rw[← hbs] at hA'
 have hVw:=hVu.call hAu.at hA'.at
 obtain⟨e0,e1,e2,e3⟩:=zgi hVw.r.mine.cells c hcR
 have e4:=zgh hVw.h.mine.cells c hcH
 rw[hnn,Nat.zero_add] at e0 e1 e2 e3
 rw[hhh,Nat.zero_add] at e4
 exact⟨v,rfl,hA',hVw,e0,e1,e2,e3,e4⟩):P:=h
theorem zaV{P:Prop}(h:P:=by
 go_enter Tryz.func133,Tryz.ntmps133
 go_wp2_with (first|(go_at_call 95;(with_reducible refine(zfC ‹_› ?hc).mono ?_;(case hc=>simp [Res.comes, *]);rintro e w' ⟨rfl,hat⟩))|(go_at_call 60;with_reducible refine(HC1.out _ hat.out).mono ?_;rintro e w' ⟨rfl,rfl⟩))
 go_ret
 exact⟨by rw[HX.out];rfl,by assumption⟩):P:=h
theorem zaW{P:Prop}(h:P:=by
 cases X with
 |ok s4=>
  go_wp2_with (go_at_call 62;refine(zfE HAT).mono ?_;rintro e' w' ⟨rfl,rfl⟩)
  go_roundw
  case rel=>exact FIN.out _ (fun _=>rfl)
  case measure=>simp only[intOf];omega
 |fail d0 d1 d2=>
  go_wp2_with (go_at_call 62;refine(zfD HAT).mono ?_;rintro e' w' ⟨⟨v',rfl⟩,rfl⟩)
  go_roundw
  case rel=>exact FIN.out _ (fun h=>by cases h)
  case measure=>simp only[intOf];omega):P:=h
theorem zaX{P:Prop}(h:P:=by
 all_goals go_roundw
 all_goals first|exact FIN.out _ (At.alloc ‹_› _)|(simp only[intOf];omega)):P:=h
theorem zaY{P:Prop}(h:P:=by all_goals(repeat (first|exact Kp.refl hq|exact Kp.fail _ _ _|(with_reducible refine zpv ih ‹_› ?_)|(with_reducible exact zmL ‹_›)|((with_reducible refine zhW ‹_› ?_ ?_);focus omega)|(with_reducible refine zgr ‹_› ?_)|(with_reducible refine zmJ ‹_› ?_)|(with_reducible refine zgk ‹_› ?_)|(with_reducible refine zli ‹_› ?_)|(with_reducible refine zvM ‹_› ?_)|(with_reducible refine ziP ‹_› ?_)|(with_reducible refine zjf ‹_› ?_)|((with_reducible refine zgt ih ‹_› ?_ ?_);focus (intro m0 hm0;cases hm0 <;> assumption))|((with_reducible refine znl ‹_› ?_ ?_ ?_);focus (intro hb;first|(exact absurd hb ‹_›)|skip;repeat (first|exact hb|(with_reducible refine zqL ‹_› ?_)|(with_reducible refine zkC ‹_› ?_)|(with_reducible refine zpE ‹_› ?_)|(with_reducible refine zqF ‹_› ?_)|(with_reducible refine zqS ‹_› ?_)|(with_reducible refine zkO ‹_› ?_)|(with_reducible refine ztS ‹_› ?_))))))):P:=h
theorem zaZ{P:Prop}(h:P:=by
 refine⟨_,w',h1,⟨g,cap',rfl⟩,b4,hfr 4,hbw,⟨?_,?_,?_,?_,h.read,h.few⟩,⟨?_,?_,?_,?_,?_,?_,fun k hk=>by simp [Value.ownBlock] at hk⟩⟩
 ·exact heap_setCell_same _ b 4 _ _ _ hcells
 ·exact hub.toks.keep (fun k hk hz=>hold k hz (fun e=>hub.toks.ne hub.cells zdD zdO) (hub.toks.differs hub.row zdD k hk))
 ·exact hub.sigs.keep (fun k hk hz=>hold k hz (fun e=>hub.sigs.ne hub.cells zdD zdO) (hub.sigs.differs hub.row zdD k hk))
 ·exact h2.keep (fun k hk _=>hrun k zdL)
 ·exact h3.os.trans hu.os
 ·exact h3.tape.trans hu.tape
 ·exact h3.output.trans hu.output
 ·rw[zfA];exact Nat.le_trans hu.size h3.size
 ·intro k hk hkb hkR _
  exact(hold k (Nat.lt_of_lt_of_le hk hu.size) hkb hkR).trans (hu.block k hk)
 ·intro k hk
  simp only[Value.ownBlock,Option.some.injEq] at hk
  subst hk
  exact hg):P:=h
theorem zba{P:Prop}(h:P:=by
 rw[List.getElem?_eq_getElem hcR,hnn] at h1
 obtain rfl:=Option.some.inj h1
 exact h2):P:=h
theorem zbb{P:Prop}(h:P:=by rw[← hc];exact zfJ s _ (i+1) zdC hin u):P:=h
theorem zbc{P:Prop}(h:P:=by
 go_wp2_with (first|(go_at_call 95;with_reducible refine(zfC ‹_› zex).mono ?_;rintro e w' ⟨rfl,hat⟩;have hc8:=zft _ _ _ _ hat;rw[zfw] at hc8;have HROW:=zgJ HROW ‹_› hat)|(go_at_call 107;refine(HG _ _ _ _ _ _ _ _ _ _ _ ‹_› (Lib.hid HROW.out.1) (Lib.hid HROW.out.2.1) (Lib.hid HROW.out.2.2) hwf hfew hg1).mono ?_;rintro e w' ⟨v,rfl,hat⟩)|(go_at_call 34;refine(zfG ‹_› _ zeF).mono ?_;rintro e w' ⟨rfl,hat⟩)|(go_at_call 38;refine(HCL _ _ _ _ _ _ _ _ ‹_› (fun _=>rfl) zeF).mono ?_;rintro e w' ⟨v,rfl,hat⟩))
 go_end0
 exact⟨_,rfl,Lib.hid (At.back HX.out hat.out HZ)⟩):P:=h
theorem zbd{P:Prop}(h:P:=by
 all_goals go_enter Tryz.func118,Tryz.ntmps118
 all_goals go_wp2_with (go_at_call 59;refine HA.out.mono ?_;rintro e w' ⟨rfl,hat⟩)
 all_goals(first|go_end0|go_ret)
 all_goals exact⟨rfl,hat⟩):P:=h
theorem zbe{P:Prop}(h:P:=by
 all_goals(try go_wp2_with fail)
 all_goals(first|go_ret|go_ret2)
 all_goals exact⟨rfl,((Below.refl _ _).alloc (Nat.le_refl _) _).drew⟩):P:=h
theorem zbf{P:Prop}(h:P:=by
 go_enter Tryz.func170,Tryz.ntmps170
 go_wp2_with (first|(go_at_call 186;refine(HCH.out _).mono ?_;rintro e w1 ⟨rfl,hb⟩;have HB1:=Lib.hid hb;have hbz:=hb.size;clear hb)|(go_at_call 185;refine(HES.out _).mono ?_;rintro e w2 ⟨rfl,hb⟩;have HB2:=Lib.hid hb;clear hb))
 go_ret3
 exact⟨by rw[HR.out];rfl,HB1.out.trans (HB2.out.mono hbz)⟩):P:=h
theorem zbg{P:Prop}(h:P:=by
 obtain⟨e0,e1,e2,e3,e4⟩:=hcells
 exact⟨zfN e0 hu,zfN e1 hu,zfN e2 hu,zfN e3 hu,zfN e4 hu⟩):P:=h
theorem zbh{P:Prop}(h:P:=by
 clear hu0 hzu hoB h0u h1u hMu hrun q0 q1 qm qb
 by_cases hmx:hN<hh+1
 ·have hmd:decide (hN<hh+1)=true:=decide_eq_true hmx
  have HMX:Hid (hh+1=max hN (hh+1)):=Lib.hid zdC
  go_wp2_with (at_builtin;refine Lib.wpList_append_run _ rfl _ _ _ _ rfl _ _ rfl rfl _ _ (HRUN.out _) ?_)
  go_roundw
  case rel=>exact HE.out _ HMX.out _ rfl
  case measure=>simp only[intOf];omega
 ·have hmd:decide (hN<hh+1)=false:=decide_eq_false hmx
  have HMX:Hid (hN=max hN (hh+1)):=Lib.hid zdC
  go_wp2_with (at_builtin;refine Lib.wpList_append_run _ rfl _ _ _ _ rfl _ _ rfl rfl _ _ (HRUN.out _) ?_)
  go_roundw
  case rel=>exact HE.out _ HMX.out _ rfl
  case measure=>simp only[intOf];omega):P:=h
theorem zbi{P:Prop}(h:P:=by
 all_goals(try go_wp2_with fail)
 all_goals(first|go_ret|go_ret2)
 all_goals exact⟨rfl,(Below.refl _ _).drew.alloc (Nat.le_refl _) _⟩):P:=h
theorem zbj{P:Prop}(h:P:=by
 obtain⟨e0,e1,e2,e3,e4,e5,e6,e7,e8⟩:=hcells
 exact⟨zfN e0 hu,zfN e1 hu,zfN e2 hu,zfN e3 hu,zfN e4 hu,zfN e5 hu,zfN e6 hu,zfN e7 hu,zfN e8 hu⟩):P:=h
theorem zbk{P:Prop}(h:P:=by
 clear h0
 go_enter Tryz.func170,Tryz.ntmps170
 go_wp2_with (go_at_call 186;refine(HCH.out _).mono ?_;rintro e w1 ⟨rfl,hb⟩;have HB1:=Lib.hid hb;have hbz:=hb.size;clear hb)
 go_ret3
 exact⟨by rw[HF.out];rfl,HB1.out⟩):P:=h
theorem zbl{P:Prop}(h:P:=by
 rw[if_neg hk60] at hrr
 cases hrr
 have hno60:(y.kind == 60)=false:=beq_eq_false_iff_ne.2 hk60
 go_wp2_with (first|(at_builtin;refine Lib.wpList_append_run _ rfl _ _ _ _ rfl _ _ rfl rfl _ _ (HRA.out _) ?_)|(go_at_call 83;(with_reducible refine(zgb hat9h hno60).mono ?_);rintro e w10 ⟨rfl,hat10⟩))
 go_ret
 have hFo:=hF.out
 exact⟨_,C9,_,rfl,hE9h,Lib.hid zeV,by rw[List.length_append];simp;omega,hat10,Lib.hid (hHe9h.out.call hat9h.out rfl hat10.out),Lib.hid (zuJ HRT.out.2.1 (hFo.2.2.1 s rfl) hFo.2.2.2.1 hlk hnm HYY.out hpre)⟩):P:=h
theorem zbm{P:Prop}(h:P:=by
 go_enter Tryz.func170,Tryz.ntmps170
 go_wp2_with (go_at_call 186;refine(HCH.out _).mono ?_;rintro e w1 ⟨rfl,hb⟩;have HB1:=Lib.hid hb;have hbz:=hb.size;clear hb)
 go_ret3
 exact⟨by rw[HR.out];rfl,HB1.out⟩):P:=h
theorem zbn{P:Prop}(h:P:=by
 obtain⟨z2,hz2,h⟩:=bind_some h
 obtain⟨z3,hz3,h⟩:=bind_some h
 refine zjW h (fun v hv=>?_)
 subst hv
 exact zjm rfl hz3.out (zgt ih hz2 zey (zgr hz1 h0)) zdD):P:=h
theorem zbo{P:Prop}(h:P:=by
 go_ret3
 exact RefEsc.mk HE.out znH rfl ((Below.refl _ _).alloc (Nat.le_refl _) _)):P:=h
theorem zbp{P:Prop}(h:P:=by
 have HB:=Lib.hid (hB.grown hgr zdF (fun k hk=>by cases hk;exact Nat.le_refl _))
 have HO:=Lib.hid hown
 have HRUN:=Lib.hid hrun
 clear hown hgr hrun h0 hB
 go_wp2_with (at_builtin;refine Lib.wpList_append_run _ rfl _ _ _ _ rfl _ _ rfl rfl _ _ (HRUN.out _) ?_)
 go_ret
 exact⟨_,rfl,HO.out,HB.out⟩):P:=h
theorem zbq{P:Prop}(h:P:=by
 go_enter Tryz.func173,Tryz.ntmps173
 go_wp2_with (go_at_call 172;refine(dec.width_is _ zdC hlt HW.out rfl).mono ?_;rintro e w' ⟨rfl,rfl⟩)
 go_ret
 exact⟨by rw[HF.out];rfl,rfl⟩):P:=h
theorem zbr{P:Prop}(h:P:=by
 go_wp2_with (first|(go_at_call 106;refine(zgx ‹_› _).mono ?_;rintro e w2 ⟨⟨k',i',j',o',m',c'⟩,rfl,hat2,hti⟩;have hk':=(TieB.k hti).trans HKK.out;obtain⟨cN1,gN1⟩:=HCN.out _ hat2;have hbz2:=hat2.out.at;rw[show(Rn.mk k' i' j' o' m' c').v=.agg #[.int .i64 k',.int .i64 i',.int .i64 j',.slice o' m' c'] from rfl];obtain rfl:k'=kk:=hk';clear hti)|(go_at_call 46;refine(zgw (At.alloc hat2 _) _ hfail).mono ?_;rintro e w3 ⟨v,rfl,hat⟩))
 all_goals(first|go_end0|go_ret)
 all_goals exact⟨_,rfl,Lib.hid (At.back HX.out hat.out HZ)⟩):P:=h
theorem zbs{P:Prop}(h:P:=by
 go_wp2_with (first|(go_at_call 133;refine(zlW ‹_›).mono ?_;rw[hnm];rintro e w' ⟨rfl,hat⟩)|(go_at_call 51;refine(zgo HCL _ _ _ _ _ _ ‹_›).mono ?_;rintro e w' ⟨v,rfl,hat⟩)|(go_at_call 95;first|(with_reducible refine(zfz ‹_› zet).mono ?_;rintro e w' ⟨rfl,hat⟩))|(go_at_call 57;refine(zfI ‹_› hx).mono ?_;rintro e w' ⟨rfl,hat⟩)|(go_at_call 31;refine(zfZ ‹_› hy).mono ?_;rintro e w' ⟨v,rfl,hat⟩))
 go_ret
 exact⟨rfl,by assumption⟩):P:=h
theorem zbt{P:Prop}(h:P:=by
 go_ret3
 exact RefEsc.mk HE.out (ztj _ _ zdD) rfl (((Below.refl _ _).alloc (Nat.le_refl _) _).trans (hb.mono zef))):P:=h
theorem zbu{P:Prop}(h:P:=by
 go_wp2_with fail
 go_ret
 exact⟨HC.out,rfl⟩):P:=h
theorem zbv{P:Prop}(h:P:=by
 have hy:=hy.out
 cases x with
 |fail d0 d1 d2=>
  rw[zfB] at hy
  obtain rfl:=Option.some.inj hy
  exact key 0 _ _ (Nat.zero_le _) (Lib.hid rfl) (zgL _ _ _ _ _) (Lib.hid rfl)
 |ok s=>
  cases n with
  |zero=>exact absurd hy zeC
  |succ n=>
   rw[run] at hy
   rw[zfu] at hy
   obtain⟨z1,hz1,hy⟩:=hy
   rw[zfu] at hy
   obtain⟨z2,hz2,hy⟩:=hy
   replace hy:=Lib.hid hy
   exact key n _ _ zdC ‹_› ‹_› ‹_›):P:=h
theorem zbw{P:Prop}(h:P:=by
 go_enter Tryz.func34,Tryz.ntmps34
 go_wp2_with (first|(go_at_call 58;refine HK.out.mono ?_;rintro e w' ⟨rfl,rfl⟩)|(go_at_call 32;refine HT.out.mono ?_;rintro e w' ⟨v,vR',vH',rfl,hr',hn'⟩;have HR':=Lib.hid hr';have HN':=Lib.hid hn';clear hr' hn')|(go_at_call 46;refine HF.out.mono ?_;rintro e w' ⟨v,vR',vH',rfl,hr',hn'⟩;have HR':=Lib.hid hr';have HN':=Lib.hid hn';clear hr' hn'))
 go_ret
 exact⟨vR',vH',rfl,HR'.out,HN'.out⟩):P:=h
theorem zbx{P:Prop}(h:P:=by
 go_wp2_with fail
 go_round
 case rel=>
  have e:=zqE (s:=s.data.toList) (k:=k) (by rw[← HX.out,HC3.out];simp)
  exact⟨k+1,by omega,by rw[e,HP.out],by rw[e,HP.out],by go_num⟩
 case measure=>simp [intOf];omega):P:=h
theorem zby{P:Prop}(h:P:=by
 go_wp2_with fail
 go_ret
 exact⟨rfl,Below.refl _ _⟩):P:=h
theorem zbz{P:Prop}(h:P:=by
 rw[← HEN.out] at cv
 go_enter Tryz.func192,Tryz.ntmps192
 go_wp2_with fail
 go_ret
 exact⟨rfl,(Below.refl _ _).alloc (Nat.le_refl _) _⟩):P:=h
theorem zbA{P:Prop}(h:P:=by
 go_wp2_with fail
 go_region
 all_goals(try go_wp2_with fail)
 go_ret
 exact⟨rfl,(Below.refl _ _).drew⟩):P:=h
theorem zbB{P:Prop}(h:P:=by
 go_enter Tryz.func90,Tryz.ntmps90
 go_wp2_with (go_at_call 61;refine HM.out.mono ?_;rintro e w' ⟨rfl,rfl⟩)
 all_goals go_ret
 all_goals exact⟨by have:=HZ.out;first|(congr 2;omega)|(simp;omega),rfl⟩):P:=h
theorem zbC{P:Prop}(h:P:=by
 obtain⟨s',rfl,e⟩:=zkf h
 rw[e,zhP hq.out];decide):P:=h
theorem zbD{P:Prop}(h:P:=by
 have h1:=(hat7.out.kept w3.heap.size hK4).1
 have h1:w7.heap[w3.heap.size]? = C4.k.W.heap[w3.heap.size]?:=h1
 rw[h1,hW4]
 exact hbx):P:=h
theorem zbE{P:Prop}(h:P:=by
 cases x with
 |fail d0 d1 d2=>
  rw[zfB] at hy
  obtain rfl:=Option.some.inj hy
  exact⟨_,_,0,Lib.hid rfl,zgL _ _ _ _ _,Lib.hid rfl,fun s h=>by cases h⟩
 |ok s=>
  rw[run] at hy
  try dsimp only at hy
  rw[zfu] at hy
  obtain⟨z1,hz1,hy⟩:=hy
  rw[zfu] at hy
  obtain⟨z2,hz2,hy⟩:=hy
  exact⟨z1,z2,s.R.length,hz1,hz2,Lib.hid hy,fun s' h=>by cases h;rfl⟩):P:=h
theorem zbF{P:Prop}(h:P:=by
 refine hr.toks.keep (fun k hk hz=>?_)
 rcases hsame k hz with h|⟨_,cur,e,fz,h,hne,_⟩
 ·exact h
 ·exfalso
  rcases hr.toks.2 with⟨hv,_⟩|⟨q,cap,cur',hv,hq,hh,_⟩
  ·rw[hv] at hk;cases hk
  ·rw[hv] at hk
   simp only[Value.ownBlock,Option.some.injEq] at hk
   subst hk
   rw[hh] at h
   simp only[Option.some.injEq,Obj.cells.injEq] at h
   exact hne h.2.1.symm):P:=h
theorem zbG{P:Prop}(h:P:=by
 cases x with
 |fail d0 d1 d2=>
  have e1:=hz1.out
  obtain rfl:=Option.some.inj e1
  have e2:=hz2.out
  rw[zfB] at e2
  obtain rfl:=Option.some.inj e2
  obtain⟨vL,vS,vR,σ,D,hr,_,hi⟩:=hat.out
  exact⟨_,Lib.hid (zhZ hr),(fun h=>by cases h),(fun h=>by cases h)⟩
 |ok s=>exact⟨_,Lib.hid (zfS hat),(fun _=>by rw[hmm s rfl]),fun _=>zoi hat⟩):P:=h
theorem zbH{P:Prop}(h:P:=by
 go_wp2_with (at_builtin;refine Lib.wpList_append_run _ rfl _ _ _ _ rfl _ _ rfl rfl _ _ (HRUN.out _) ?_)
 go_roundw
 case rel=>exact⟨n+1,_,by omega,by simp;omega,by go_num,Lib.hid (fun x h=>by
  rcases List.mem_append.1 h with h|h
  ·exact HL.out x h
  ·rw[List.mem_singleton] at h;rw[h];exact HIN.out),HM'.out,HB'.out⟩
 case measure=>simp [intOf];omega):P:=h
theorem zbI{P:Prop}(h:P:=by exact(((HB1.out.setCell (p:=⟨B1,0,none⟩) zfs _).setCell (p:=⟨B1,1,none⟩) zfs _).setCell (p:=⟨B1,2,none⟩) zfs _).setCell (p:=⟨B1,3,none⟩) zfs _):P:=h
theorem zbJ{P:Prop}(h:P:=by
 obtain⟨h6,a0,a1,a2,b0,b1,b2,⟨⟨f0,f1,f2⟩,g0,g1,g2⟩,hbl⟩:=h
 refine⟨zjh h6 zdC v,?_,?_,?_,?_,?_,?_,⟨⟨?_,?_,?_⟩,?_,?_,?_⟩,hbl.setCell (by show w.heap.size≤w.heap.size+1+1;omega) v⟩
 all_goals simp [World.cell?_setCell_other,World.cell?_setCell_same',a0,a1,a2,b0,b1,b2,f0,f1,f2,g0,g1,g2]):P:=h
theorem zbK{P:Prop}(h:P:=by
 cases x with
 |fail=>exact hi
 |ok s=>
  obtain⟨h1,h2,h3,h4,h5⟩:=hi
  exact⟨h1,h2,h3,ho.ties hn h4,h5⟩):P:=h
theorem zbL{P:Prop}(h:P:=by
 refine bodyPost_ret (zhN rfl _ _ W.heap.size 37 _ (0,0) _ rfl hbox Tryz.underlying37 rfl (by as_aux_lemma=>kernel_rfl)) rfl ?_
 exact⟨_,_,rfl,HFN.out _ (zgq _ _ _ _ _) zdP rfl rfl rfl⟩):P:=h
theorem zbM{P:Prop}(h:P:=by
 obtain⟨e0,e1,e2,e3,e4,e5,e6,e7,e8,e9,e10,e11,e12⟩:=hcells
 exact⟨zfN e0 hu,zfN e1 hu,zfN e2 hu,zfN e3 hu,zfN e4 hu,zfN e5 hu,zfN e6 hu,zfN e7 hu,zfN e8 hu,zfN e9 hu,zfN e10 hu,zfN e11 hu,zfN e12 hu⟩):P:=h
theorem zbN{P:Prop}(h:P:=by
 go_wp2_with (first|(go_at_call 30;refine(zig _ _).mono ?_;rintro e w9 ⟨rfl,rfl⟩;rw[hs])|(at_builtin;refine Lib.wpList_append_run _ rfl _ _ _ _ rfl _ _ rfl rfl _ _ (HRUN.out _) ?_))
 go_roundw
 case rel=>exact⟨i+1,_,by omega,by go_num,HMD3.out⟩
 case measure=>simp [intOf];omega):P:=h
theorem zbO{P:Prop}(h:P:=by
 go_enter Tryz.func184,Tryz.ntmps184
 go_wp2_with fail
 go_ret
 exact⟨by rw[HE.out];rfl,rfl⟩):P:=h
theorem zbP{P:Prop}(h:P:=by
 rcases hown.2 with⟨rfl,h0⟩|⟨g',cap',cur,rfl,_,_,hnc,_⟩
 ·simp [Builtin.append_,run_underlying F.ht,sizeOf,typeInfo,hi,Builtin.lenOf,Builtin.firstCells]
 ·simp [Builtin.append_,run_underlying F.ht,sizeOf,typeInfo,hi,Builtin.lenOf,Builtin.firstCells,hnc,storeCells]):P:=h
theorem zbQ{P:Prop}(h:P:=by
 go_wp2_with fail
 all_goals go_meet
 all_goals(first|(exfalso;omega)|exact⟨by have:=HZ.out;first|(congr 1;omega)|(simp;omega),rfl⟩)):P:=h
theorem zbR{P:Prop}(h:P:=by
 clear HN
 go_wp2_with (go_at_call 184;refine(refDigit_any _ _ hc0 hc1).mono ?_;rintro e w' ⟨rfl,rfl⟩;rw[HZ.out])
 go_round
 case rel=>exact⟨k+1,_,by omega,by rw[show i+(k+1)=j+1 by have:=HJ.out;omega];go_num,rfl,HR.out⟩
 case measure=>simp [intOf];omega):P:=h
theorem zbS{P:Prop}(h:P:=by
 cases x with
 |fail=>rw[Rd.ahead_failed hi.1];rfl
 |ok s=>
  obtain⟨h1,h2,h3,_⟩:=hi
  unfold Rd.ahead Rd.next
  rw[h1,h2,h3]
  rfl):P:=h
theorem zbT{P:Prop}(h:P:=by
 cases x with
 |fail d0 d1 d2=>
  have:=hr.out
  rw[zfB] at this
  exact .inl ⟨d0,d1,d2,(Option.some.inj this).symm,hat⟩
 |ok s=>
  cases q with
  |zero=>exact absurd hr.out zeC
  |succ q=>exact .inr ⟨q,s,by omega,rfl,hat,hr.out⟩):P:=h
theorem zbU{P:Prop}(h:P:=by
 rw[zmP]
 unfold dec.codeAt at a
 refine decide_eq_true ?_
 by_cases hr:(dec.runeAt s i:Int)=65279
 ·unfold dec.faultZ at a ⊢
  rw[hr] at a
  split at a
  ·omega
  ·split at a
   ·omega
   ·split at a <;> omega
 ·rw[← znv (p:=i) hr,a];decide):P:=h
theorem zbV{P:Prop}(h:P:=by
 all_goals(try go_region)
 all_goals(try go_wp2_with fail)
 all_goals(try go_ret3)
 all_goals exact RefEsc.mk HE.out (zkU _ _ zdD) rfl (((Below.refl _ _).alloc (Nat.le_refl _) _).alloc zef _).drew):P:=h
theorem zbW{P:Prop}(h:P:=by
 refine⟨⟨h5.mine.keep (fun k hk hz=>hsame k hz (fun e=>h6 k e hk)),fun k hk=>.inl (h5.held k hk)⟩,fun k hk e=>?_⟩
 simp only[Value.ownBlock,Option.some.injEq] at hk
 subst hk
 rcases hg with hg|hg
 ·exact h6 _ hg e
 ·have:=h5.mine.lt _ e;omega):P:=h
theorem zbX{P:Prop}(h:P:=by
 all_goals go_wp2_with fail
 go_ret
 exact⟨(by rw[← HL.out];first|done|rfl),by first|exact HB2.out.drew|exact HB2.out⟩):P:=h
theorem zbY{P:Prop}(h:P:=by
 all_goals(first
 |(go_roundw;(case rel=>exact(Lq.less zdC ‹_› ‹_› hq).1);(case measure=>exact(Lq.less (n:=n) zdC ‹_› ‹_› hq).2))
 |(go_end0;exact⟨_,rfl,by assumption⟩)
 |(go_ret;exact⟨_,rfl,by assumption⟩))):P:=h
theorem zbZ{P:Prop}(h:P:=by
 clear hraw
 go_wp2_with fail
 go_round
 case rel=>
  have e:=zqE (s:=s.data.toList) (k:=k) (by rw[HP.out,HL.out];exact fun h=>c1 h.1)
  exact⟨k+1,by omega,by rw[e,HP.out],by rw[e,HP.out],by go_num⟩
 case measure=>simp [intOf];omega):P:=h
theorem zca{P:Prop}(h:P:=by
 simp only[Option.some.injEq,Obj.cells.injEq] at h
 exact absurd h.2.1.symm hne):P:=h
theorem zcb{P:Prop}(h:P:=by
 cases x with
 |fail=>simp [Res.sigs]
 |ok s=>
  obtain⟨h1,h2,h3,h4,h5,h6,h7,h8,h9,h10⟩:=hi
  simp only[Res.sigs,List.length_map]
  have:=List.length_filter_le (fun t:Tk=>sig t.k) (s.L.drop s.at')
  rw[List.length_drop] at this
  omega):P:=h
theorem zcc{P:Prop}(h:P:=by
 go_wp2_with (go_at_call 86;refine HX.out.mono ?_;rintro e w' ⟨rfl,rfl⟩)
 go_ret
 exact⟨by rw[HH.out];rfl,rfl⟩):P:=h
theorem zcd{P:Prop}(h:P:=by
 obtain⟨z2,hz2,h⟩:=bind_some h
 obtain⟨z3,hz3,h⟩:=bind_some h
 refine zru h (fun v hv=>?_)
 subst hv
 exact zie hz3.out rfl (zgt ih hz2 zey (zgr hz1 h0)) zdD zdD zdD):P:=h
theorem zce{P:Prop}(h:P:=by
 refine Classical.byContradiction fun h=>?_
 obtain⟨_,_,_,_,_,hv,ho,_⟩:=HR.out
 have:=ho h
 subst this
 cases hv):P:=h
theorem zcf{P:Prop}(h:P:=by
 split at hy
 ·rename_i h65
  rw[zfu] at hy
  obtain⟨z,hz,hy⟩:=hy
  exact⟨z,by rw[if_pos h65];exact hz,hy⟩
 ·rename_i h65
  rw[zfu] at hy
  obtain⟨z,hz,hy⟩:=hy
  exact⟨z,by rw[if_neg h65];exact hz,hy⟩):P:=h
theorem zcg{P:Prop}(h:P:=by rw[HB0.out];exact(((HB1.out.setCell (p:=⟨B0,0,none⟩) (Nat.le_refl _) _).setCell (p:=⟨B0,1,none⟩) (Nat.le_refl _) _).setCell (p:=⟨B0,2,none⟩) (Nat.le_refl _) _).setCell (p:=⟨B0,3,none⟩) (Nat.le_refl _) _):P:=h
theorem zch{P:Prop}(h:P:=by
 rcases hk with rfl|rfl|rfl|⟨cur,hk⟩
 ·exact⟨_,_,_,h0,by decide,by decide⟩
 ·exact⟨_,_,_,h1,by decide,by decide⟩
 ·exact⟨_,_,_,h2,by decide,by decide⟩
 ·exact⟨_,_,_,hge k cur hk,by decide,by decide⟩):P:=h
theorem zci{P:Prop}(h:P:=by
 have h1:=hE.out.base.2
 have h2:=hat3.out.size
 exact Nat.le_trans h1 h2):P:=h
theorem zcj{P:Prop}(h:P:=by
 go_wp2_with fail
 go_ret
 exact⟨rfl,rfl⟩):P:=h
theorem zck{P:Prop}(h:P:=by
 obtain⟨h1,h2,h3,h4,h5⟩:=hi
 exact⟨h1,h2,h3,Ties.keep (fun g hg=>hdd g hg) (fun _ h=>h) _ _ h4,h5⟩):P:=h
theorem zcl{P:Prop}(h:P:=by
 go_enter Tryz.func188,Tryz.ntmps188
 go_wp2
 go_ret
 exact⟨rfl,rfl⟩):P:=h
theorem zcm{P:Prop}(h:P:=by
 go_wp2_with (go_at_call 46;refine HF.out.mono ?_;rintro e w' ⟨v,vR',vH',rfl,hr',hn'⟩;have HR':=Lib.hid hr';have HN':=Lib.hid hn';clear hr' hn')
 go_ret
 exact⟨vR',vH',rfl,HR'.out,HN'.out⟩):P:=h
theorem zcn{P:Prop}(h:P:=by
 rcases Nat.lt_or_ge i T.length with h|h
 ·exact h
 ·exact absurd (List.drop_of_length_le h) hne):P:=h
theorem zco{P:Prop}(h:P:=by
 by_cases h:nxt n r<r.length
 ·rw[if_pos h,if_pos (show 1+nxt n r<r.length+1 by omega),show k+1+nxt n r=k+(1+nxt n r) by omega]
 ·rw[if_neg h,if_neg (show ¬ (1+nxt n r<r.length+1) by omega)]):P:=h
theorem zcp{P:Prop}(h:P:=by
 go_wp2_with (go_at_call 183;refine(zwP _ _ zdD).mono ?_;rintro e w1 ⟨v,rfl,ho,hb⟩;have HO:=Lib.hid ho;have HB:=Lib.hid hb;clear ho hb)
 go_ret
 exact⟨_,rfl,HO.out,HB.out⟩):P:=h
theorem zcq{P:Prop}(h:P:=by
 go_wp2_with fail
 go_ret3
 exact⟨by rw[HN1.out];rfl,HB.out⟩):P:=h
theorem zcr{P:Prop}(h:P:=by
 have e:=ho' (fun e=>hne (List.eq_nil_of_length_eq_zero (by rw[← hlen,e];rfl)))
 refine⟨e,?_⟩
 rw[hD']
 right
 show(Value.slice ok (σ.R.drop M).length ck).ownBlock=some g
 rw[e]
 rfl):P:=h
theorem zcs{P:Prop}(h:P:=by
 go_wp2_with fail
 go_ret
 exact⟨by rw[← HL.out];rfl,rfl⟩):P:=h
theorem zct{P:Prop}(h:P:=by rw[zfy _ _ _ _ _ hk,zfy _ _ _ _ _ hk,zfy _ _ _ _ _ hk,zfy _ _ _ _ _ hk]):P:=h
theorem zcu{P:Prop}(h:P:=by
 rcases hk.2 with⟨hv,_⟩|⟨q,cap,cur,hv,hq,hh,_⟩
 ·rw[hv] at hg;cases hg
 ·rw[hv] at hg
  simp only[Value.ownBlock,Option.some.injEq] at hg
  subst hg
  exact⟨_,_,hh⟩):P:=h
theorem zcv{P:Prop}(h:P:=by
 have:=hi.2.2.2.1.length
 rw[List.length_map] at this
 have:=hi.2.2.2.2.2.2.2.2.2
 omega):P:=h
theorem zcw{P:Prop}(h:P:=by
 have h1:k≠b:=fun e=>hvb (e ▸ hk)
 have h2:k≠g:=by
  rintro rfl
  rcases hat with hat|hat
  ·exact hR hat
  ·omega
 rw[hs k h1 h2,hg.block k hkz (fun e=>hR e.symm)]):P:=h
theorem zcx{P:Prop}(h:P:=by exact zis (by have:=hs.rlen;rw[hs.eq];omega) hs.in):P:=h
theorem zcy{P:Prop}(h:P:=by
 all_goals go_wp2_with fail
 go_roundw
 case rel=>exact⟨n+1,by omega,by go_num,HL.out,by first|exact HB2.out.drew|exact HB2.out⟩
 case measure=>simp [intOf];omega):P:=h
theorem zcz{P:Prop}(h:P:=by exact(HBE.out.trans (hb1.trans qb)).trans (((Below.refl _ _).setCell (p:=⟨B0,3,none⟩) (Nat.le_refl _) _).setCell (p:=⟨B0,4,none⟩) (Nat.le_refl _) _)):P:=h
theorem zcA{P:Prop}(h:P:=by
 clear HN
 go_wp2_with (go_at_call 184;refine(refDigit_any _ _ hc0 hc1).mono ?_;rintro e w' ⟨rfl,rfl⟩;rw[HZ.out])
 go_ret
 exact⟨by rw[HR.out];rfl,rfl⟩):P:=h
theorem zcB{P:Prop}(h:P:=by
 go_wp2_with fail
 go_roundw
 case rel=>exact⟨i+1,by omega,by go_num,by rw[← HAN.out];simp,HB.out.alloc HB.out.size _⟩
 case measure=>simp [intOf];omega):P:=h
theorem zcC{P:Prop}(h:P:=by
 go_enter Tryz.func60,Tryz.ntmps60
 go_wp2_with (go_at_call 86;refine HX.out.mono ?_;rintro e w' ⟨rfl,rfl⟩)
 go_ret
 exact⟨by rw[HRES.out];rfl,rfl⟩):P:=h
theorem zcD{P:Prop}(h:P:=by
 rw[if_neg zdC,ho (fun e=>by rw[e] at h1;simp at h1)]
 simp [Addr.add]):P:=h
theorem zcE{P:Prop}(h:P:=by
 rcases h4 with h4|h4
 ·exact .inl h4
 ·exact .inr (by rw[h4];exact hu.size)):P:=h
theorem zcF{P:Prop}(h:P:=by
 have h9:=hra
 rw[zfA,zfA] at h9
 exact h9):P:=h
theorem zcG{P:Prop}(h:P:=by
 rw[hnum]
 show(if (rowOf 10 false (s.data.toList.drop 0)).2 then(10,(rowOf 10 false (s.data.toList.drop 0)).1,true) else(0,[],false))=_
 rw[hx,hr]):P:=h
theorem zcH{P:Prop}(h:P:=by
 rw[hnum]
 show(if (rowOf 16 true (s.data.toList.drop 2)).2 then(16,(rowOf 16 true (s.data.toList.drop 2)).1,true) else(0,[],false))=_
 rw[hx,hr]):P:=h
theorem zcI{P:Prop}(h:P:=by
 all_goals(try go_wp2_with fail)
 all_goals go_meet
 all_goals exact⟨rfl,heap_alloc_last _ _,((Below.refl _ _).alloc (Nat.le_refl _) _).drew⟩):P:=h
theorem zcJ{P:Prop}(h:P:=by
 rw[List.length_append,List.length_take,Nat.min_eq_left zdC]
 rfl):P:=h
theorem zcK{P:Prop}(h:P:=by
 have hd1:decide (((i+k:Nat):Int)<(i:Int)+(k:Int))=false:=decide_eq_false zdC
 go_wp2_with fail
 go_ret
 exact⟨by rw[HR.out];rfl,rfl⟩):P:=h
theorem zcL{P:Prop}(h:P:=by
 rw[hnum]
 show(if (rowOf 8 true (s.data.toList.drop 2)).2 then(8,(rowOf 8 true (s.data.toList.drop 2)).1,true) else(0,[],false))=_
 rw[hx,hr]):P:=h
theorem zcM{P:Prop}(h:P:=by
 rw[hnum]
 show(if (rowOf 2 true (s.data.toList.drop 2)).2 then(2,(rowOf 2 true (s.data.toList.drop 2)).1,true) else(0,[],false))=_
 rw[hx,hr]):P:=h
theorem zcN{P:Prop}(h:P:=by
 rw[HA.out]
 exact zoD zdS (show k+1≤count by omega) (by rw[HN.out,nStep,if_neg (by rw[HI.out];simpa using hdig)])):P:=h
theorem zcO{P:Prop}(h:P:=by
 go_wp2_with fail
 go_ret3
 exact⟨by rw[HR.out];rfl,Below.refl _ _⟩):P:=h
theorem zcP{P:Prop}(h:P:=by
 rw[Ties] at h
 obtain⟨n,R',rfl,h1,h2⟩:=h
 cases i with
 |zero=>exact h1
 |succ i=>exact ih h2 (by simpa using hi) (by simpa using hi2)):P:=h
theorem zcQ{P:Prop}(h:P:=by
 cases z with
 |fail a b c=>cases h
 |ok u=>
  have h:chk (.ok u.up)=some (.ok t):=h
  obtain⟨e,_⟩:=zgg h
  cases e
  exact hz u rfl):P:=h
theorem zcR{P:Prop}(h:P:=by
 refine⟨h.1,?_⟩
 rcases h.2 with hn|⟨g,cap,cur,rfl,hg,rest⟩
 ·exact .inl hn
 ·exact .inr ⟨g,cap,cur,rfl,by omega,rest⟩):P:=h
theorem zcS{P:Prop}(h:P:=by
 rcases Nat.lt_or_ge (s.next 0) s.L.length with h|h
 ·exact h
 ·exact absurd (by unfold St.ahead;rw[List.getElem?_eq_none h]) hne):P:=h
theorem zcT{P:Prop}(h:P:=by
 obtain⟨b1,b2⟩:=hat.kept k a2
 exact⟨a1,.inl a2,(hsame k zdC (fun e=>by have:=hB k e;omega)).trans (b1.trans a3)⟩):P:=h
theorem zcU{P:Prop}(h:P:=by
 go_wp2_with fail
 go_round
 case rel=>exact⟨j+1,by omega,by go_num,by rw[HM2.out],HB2.out⟩
 case measure=>simp [intOf];omega):P:=h
theorem zcV{P:Prop}(h:P:=by
 go_wp2_with fail
 go_meet
 exact⟨by rw[← HK.out];rfl,rfl⟩):P:=h
theorem zcW{P:Prop}(h:P:=by
 go_wp2_with fail
 go_roundw
 case rel=>exact⟨n+1,by omega,by go_num,HL.out,by trivial⟩
 case measure=>simp [intOf];omega):P:=h
theorem zcX{P:Prop}(h:P:=by exact⟨rfl,rfl,rfl,rfl,0,0,[],⟨Nat.le_refl _,by simp⟩,fun e=>absurd rfl e,fun j u h=>by simp [flat] at h,Ties.nil⟩):P:=h
theorem zcY{P:Prop}(h:P:=by
 by_cases c:p<l.length
 ·have:=zjk (L:=L) c
  rw[if_pos c,if_pos c,ih g _ zdC zdC]
 ·rw[if_neg c,if_neg c]):P:=h
theorem zcZ{P:Prop}(h:P:=by
 unfold Op.stringOp
 simp only[]
 rw[if_neg (by rw[bsize,bsize];show ¬ ((_:Nat):Int)>9223372036854775807;omega),zlD]):P:=h
theorem zda{P:Prop}(h:P:=by
 go_roundw
 case rel=>exact⟨k+1,by omega,by go_num,by have:=HK.out;omega,by trivial⟩
 case measure=>simp [intOf];omega):P:=h
theorem zdb{P:Prop}(h:P:=by
 go_roundw
 case rel=>exact⟨_,q,rfl,hRe⟩
 case measure=>
  have h5:=(Re.out hRe).2
  rw[hq]
  exact Nat.lt_succ_of_le h5):P:=h
theorem zdc{P:Prop}(h:P:=by
 go_wp2
 go_ret
 exact⟨_,rfl,Mine.nil _ _,Below.refl _ _⟩):P:=h
theorem zdd{P:Prop}(h:P:=by
 obtain⟨h1,h2,h3⟩:=he.kept k hk
 obtain⟨a1,a2,a3,a4,a5⟩:=ho.kept k h2
 exact⟨hz k hk,a2,a3,a4,a5.trans h3⟩):P:=h
theorem zde{P:Prop}(h:P:=by
 obtain⟨_,_,h⟩:=bind_some h
 exact .inr (zhP h)):P:=h
theorem zdf{P:Prop}(h:P:=by
 have h1:=HHI2.out
 rw[show m1+(j+1)=p+1 by have:=HP.out;omega]
 rw[hiFrom,List.foldl_cons,HMX.out] at h1
 exact h1):P:=h
theorem zdg{P:Prop}(h:P:=by
 unfold Mine
 rw[List.length_append,ziD]
 exact h2):P:=h
theorem zdh{P:Prop}(h:P:=by
 rintro e w' ⟨rfl,rfl⟩
 exact⟨rfl,Below.refl _ _⟩):P:=h
theorem zdi{P:Prop}(h:P:=by
 cases x with
 |ok s=>exact(ziF hy).elim
 |fail d0 d1 d2=>obtain rfl:=zka hy;exact h _ _ _ _ _ _ _ hat):P:=h
theorem zdj{P:Prop}(h:P:=by
 go_end0
 exact⟨_,vR,vH,rfl,HRD.out,Nx.refl _ _ _ _⟩):P:=h
theorem zdk{P:Prop}(h:P:=by
 cases x with
 |ok s=>exact(run_zero hy).elim
 |fail d0 d1 d2=>obtain rfl:=ziu hy;exact h _ _ _ _ _ _ _ hat):P:=h
theorem zdl{P:Prop}(h:P:=by
 rcases Nat.lt_or_ge 1 x.sigs.length with h2|h2
 ·exact h2
 ·have:=(ahead_none h2).2;rw[this] at h1;cases h1):P:=h
theorem zdm{P:Prop}(h:P:=by exact⟨by show k<W4.heap.size;omega,by omega,fun e=>by have:=hl3 _ e;omega,by simp [Value.ownBlock],rfl⟩):P:=h
theorem zdn{P:Prop}(h:P:=by exact⟨by omega,a2,a3,a4,by rw[hdd k hk];exact a5⟩):P:=h
theorem zdo{P:Prop}(h:P:=by
 go_enter Tryz.func170,Tryz.ntmps170
 go_wp2_with fail
 go_ret3
 exact⟨by rw[HF.out];rfl,Below.refl _ _⟩):P:=h
theorem zdp{P:Prop}(h:P:=by
 obtain⟨v',w',h1,h2⟩:=hr
 exact Lib.wp_append_run w s x t tn ho vs vx hs hx v' w' (h1 _) (h v' w' h2)):P:=h
theorem zdq{P:Prop}(h:P:=by
 clear hsd
 go_enter Tryz.func191,Tryz.ntmps191
 go_wp2_with fail
 go_ret
 exact⟨by rw[HA.out];rfl,rfl⟩):P:=h
theorem zdr{P:Prop}(h:P:=by
 rcases List.mem_append.1 hx with hx|hx
 ·exact h8 x hx
 ·rw[(List.mem_replicate.1 hx).2]
  omega):P:=h
theorem zds{P:Prop}(h:P:=by exact if_neg (fun x=>by have:=x.2;simp at this)):P:=h
theorem zdt{P:Prop}(h:P:=by
 by_cases h:σ.at'+nxt 0 (σ.L.drop σ.at')<σ.L.length
 ·exact h
 ·rw[if_neg h] at h1;cases h1):P:=h
theorem zdu{P:Prop}(h:P:=by
 go_wp2_with fail
 go_ret
 exact⟨by rw[hr.out];rfl,(Below.refl _ _).alloc (Nat.le_refl _) _⟩):P:=h
theorem zdv{P:Prop}(h:P:=by
 go_wp2_with fail
 go_ret
 exact⟨by rw[HR.out];rfl,(Below.refl _ _).alloc (Nat.le_refl _) _⟩):P:=h
theorem zdw{P:Prop}(h:P:=by
 by_cases h1:c=1
 ·have:=HI.out.1 h1
  rw[← this]
  exact beq_iff_eq.2 hkb
 ·exact HI.out.2 h1):P:=h
theorem zdx{P:Prop}(h:P:=by
 subst hk
 rcases hg with hg|hg
 ·exact .inl (h.held _ hg)
 ·exact .inr ⟨hg,h2.lt _ rfl⟩):P:=h
theorem zdy{P:Prop}(h:P:=by
 go_enter Tryz.func169,Tryz.ntmps169
 go_wp2_with fail
 go_ret3
 exact⟨rfl,Below.refl _ _⟩):P:=h
theorem zdz{P:Prop}(h:P:=by
 obtain⟨g,off,o,cap,hc,hv,ho,hcell⟩:=h
 exact⟨g,off,o,cap,hc,hv,ho,hcell.below hb⟩):P:=h
theorem zdA{P:Prop}(h:P:=by
 have:=all ⟨n.toNat,by omega⟩
 simpa [show((n.toNat:Nat):Int)=n by omega] using this):P:=h
theorem zdB{P:Prop}(h:P:=by
 rw[hh] at hb
 simp only[Option.some.injEq,Obj.cells.injEq] at hb
 exact hne hb.2.1.symm):P:=h
theorem zfc{P:Prop}(h:P:=by unfold Func.isWrapper;first|(rw[if_pos (by decide +kernel)];as_aux_lemma=>kernel_rfl)|(rw[if_neg (by decide +kernel)];exact⟨rfl,rfl⟩)):P:=h
theorem zeg{P:Prop}(h:P:=by rw[hev,runeE,ho];show(if 1114111<n then _ else if Lib.validRune n=true then _ else _)=_;rw[if_neg zdC,if_neg (by rw[hv];decide)]):P:=h
theorem zeh{P:Prop}(h:P:=by rw[hev,runeE,ho];show(if 1114111<n then _ else if Lib.validRune n=true then _ else _)=_;rw[if_neg zdC,if_pos hv]):P:=h
theorem zdP{P:Prop}(h:P:=by first|(rw[zfA,zfA,zfA];done)|(show(World.setCell _ _ _).heap.size=_;rw[zfA,zfA,zfA])):P:=h
theorem zeV{P:Prop}(h:P:=by rw[hFo.2.2.2.2.2];exact Ch.snoc HRT.out.2.2 hFo.1 zeW (Nat.le_refl _)):P:=h
theorem zfn{P:Prop}(h:P:=by rw[zwA zep (fun j g1 h=>HA.out j g1 (by rw[HSD.out] at h;omega) h),HSD.out]):P:=h
theorem zej{P:Prop}(h:P:=by rw[HFN.out];exact zoC (fun g=>h39 (by have:=g.2.2;rw[hat] at this;exact Option.some.inj this))):P:=h
theorem zfm{P:Prop}(h:P:=by rw[HW3.out];exact fun _=>⟨by simp [wrong],by simp only[wrong];rw[← HE2.out];simp⟩):P:=h
theorem zeY{P:Prop}(h:P:=by first|exact fun _=>zgs ‹_›|(intro _;omega)|(intro hb;cases hb;done)|assumption):P:=h
theorem zez{P:Prop}(h:P:=by first|exact fun _=>zoi ‹_›|(intro _;omega)|(intro hb;cases hb;done)|assumption):P:=h
theorem zeu{P:Prop}(h:P:=by first|with_reducible assumption|exact Lib.hid rfl|assumption|exact zgL _ _ _ _ _):P:=h
theorem zfr{P:Prop}(h:P:=by rw[HW.out];exact fun _=>⟨by simp [wrong],by have:=HE.out;simp only[wrong];omega⟩):P:=h
theorem zdT{P:Prop}(h:P:=by rw[HN.out,nStep,if_pos (by rw[HI.out];exact decide_eq_true hdig),HS.out zdC]):P:=h
theorem zeB{P:Prop}(h:P:=by rintro e w' ⟨n',h1,h2,h3⟩;exact⟨n',h1,hu.trans (h2.mono hu.size),h3⟩):P:=h
theorem zeX{P:Prop}(h:P:=by have h9:(grp (e0::r0)[0].f (e0::r0)).length≤(e0::r0).length:=HGL.out;omega):P:=h
theorem zek{P:Prop}(h:P:=by rw[HFN.out];exact zoC (fun g=>hlen (by have:=g.2.1;rwa [sdata] at this))):P:=h
theorem zeb{P:Prop}(h:P:=by intro z hz;simp only[List.mem_cons,List.not_mem_nil,or_false] at hz;omega):P:=h
theorem zeD{P:Prop}(h:P:=by have:=Nat.mul_le_mul (show T.length+1≤1099511627777 by omega) hby;omega):P:=h
theorem zeR{P:Prop}(h:P:=by rw[hel];simp [namedT,k208,Tree.l,zhK hu,u207,zhK hu2,v201]):P:=h
theorem zei{P:Prop}(h:P:=by rw[HFN.out];exact zwl h0 (by rw[sdata];exact hlen) (by rw[hat,h39])):P:=h
theorem zed{P:Prop}(h:P:=by rw[List.getElem?_eq_getElem zec,zfY hin,hc]):P:=h
theorem zer{P:Prop}(h:P:=by repeat (first|exact HF.out.below|refine zlH ?_ zdC _)):P:=h
theorem zfl{P:Prop}(h:P:=by repeat (first|exact HG.out.below|refine zlH ?_ zdC _)):P:=h
theorem zfp{P:Prop}(h:P:=by repeat (first|exact HR.out.below|refine zlH ?_ zdC _)):P:=h
theorem zeq{P:Prop}(h:P:=by repeat (first|exact HF.out.six|refine zjh ?_ zdC _)):P:=h
theorem zfi{P:Prop}(h:P:=by repeat (first|exact HG.out.six|refine zjh ?_ zdC _)):P:=h
theorem zfo{P:Prop}(h:P:=by repeat (first|exact HR.out.six|refine zjh ?_ zdC _)):P:=h
theorem zea{P:Prop}(h:P:=by rw[HW.out];exact fun _=>⟨by simp [wrong],by simp [wrong]⟩):P:=h
theorem zeG{P:Prop}(h:P:=by intro e;rw[List.map_eq_nil_iff] at e;rw[e] at hlt;simp at hlt):P:=h
theorem zeF{P:Prop}(h:P:=by first|with_reducible assumption|exact Lib.hid rfl|assumption):P:=h
theorem zev{P:Prop}(h:P:=by first|exact fun _=>rfl|assumption|exact fun hb=>by cases hb):P:=h
theorem zeI{P:Prop}(h:P:=by rintro(h|h);exact absurd h zeA;exact h62 h):P:=h
theorem zew{P:Prop}(h:P:=by first|assumption|exact Lib.hid rfl|exact zgL _ _ _ _ _):P:=h
theorem zfh{P:Prop}(h:P:=by rw[bsize,List.length_take,List.length_drop,HSD.out];omega):P:=h
theorem zeN{P:Prop}(h:P:=by rw[List.length_map,List.length_take];have:=HLN.out;omega):P:=h
theorem zdL{P:Prop}(h:P:=by simp only[Value.ownBlock,Option.some.injEq] at hk;omega):P:=h
theorem zel{P:Prop}(h:P:=by rw[bsize,List.length_take,List.length_drop,sdata];omega):P:=h
theorem zfd{P:Prop}(h:P:=by first|with_reducible assumption|exact zgL _ _ _ _ _):P:=h
theorem zfg{P:Prop}(h:P:=by rw[HD.out zff];exact HP.out):P:=h
theorem zeK{P:Prop}(h:P:=by intro q;rw[← HLR.out,q] at hc;simp at hc):P:=h
theorem zeL{P:Prop}(h:P:=by intro q;rw[← HHR.out,q] at hc;simp at hc):P:=h
theorem zfs{P:Prop}(h:P:=by show W.heap.size≤B1;have:=HB1e.out;omega):P:=h
theorem zef{P:Prop}(h:P:=by rw[World.size_alloc];exact Nat.le_succ _):P:=h
theorem zfj{P:Prop}(h:P:=by rw[HW3.out];simp only[right];rw[HE2.out]):P:=h
theorem zfk{P:Prop}(h:P:=by rw[HW3.out];exact fun h=>absurd rfl h):P:=h
theorem zdZ{P:Prop}(h:P:=by rw[HW.out];exact fun h=>absurd rfl h):P:=h
theorem zfb{P:Prop}(h:P:=by rw[← hx1];exact⟨_,HXX.out.2.1⟩):P:=h
theorem zdH{P:Prop}(h:P:=by intro e;rw[e] at hltT;simp at hltT):P:=h
theorem zeS{P:Prop}(h:P:=by rw[← hC4];exact hE.out.trans hE4):P:=h
theorem zdM{P:Prop}(h:P:=by intro e;rw[e] at hlt;simp at hlt):P:=h
theorem zeW{P:Prop}(h:P:=by show v0≤v1;have:=hFo.2.1;omega):P:=h
theorem zeZ{P:Prop}(h:P:=by intro e;rw[e] at hiR;simp at hiR):P:=h
theorem zdK{P:Prop}(h:P:=by rw[HLN.out];exact Nat.le_refl _):P:=h
theorem zeE{P:Prop}(h:P:=by rw[HB0.out];exact Nat.le_refl _):P:=h
theorem zfq{P:Prop}(h:P:=by rw[← hu,← hb];exact Iff.rfl):P:=h
theorem zeM{P:Prop}(h:P:=by intro e;rw[e] at h2;simp at h2):P:=h
theorem zeH{P:Prop}(h:P:=by rw[List.length_map];exact hlt):P:=h
theorem zen{P:Prop}(h:P:=by rw[HE.out,if_neg zdF]):P:=h
theorem zfa{P:Prop}(h:P:=by rw[← hx1];exact HXX.out.1):P:=h
theorem zdR{P:Prop}(h:P:=by rw[List.length_drop];omega):P:=h
theorem zdX{P:Prop}(h:P:=by rw[get_lt s i hi,hc];omega):P:=h
theorem zeP{P:Prop}(h:P:=by rw[World.size_alloc];omega):P:=h
theorem zeJ{P:Prop}(h:P:=by rw[List.length_map];omega):P:=h
theorem zfe{P:Prop}(h:P:=by unfold isWd;rw[hL,hG];rfl):P:=h
theorem zdE{P:Prop}(h:P:=by rintro rfl;simp at hltT):P:=h
theorem zey{P:Prop}(h:P:=by intro m0 hm0;cases hm0):P:=h
theorem zeT{P:Prop}(h:P:=by rw[← hC4];exact hat4):P:=h
theorem zff{P:Prop}(h:P:=by rw[HSD.out];exact hlt2):P:=h
theorem zem{P:Prop}(h:P:=by rw[HE.out,if_pos rfl]):P:=h
theorem zeO{P:Prop}(h:P:=by simp [Value.ownBlock]):P:=h
theorem zeU{P:Prop}(h:P:=by rw[zfA,zfA]):P:=h
theorem zet{P:Prop}(h:P:=by simp [Res.comes,hk0]):P:=h
theorem zdN{P:Prop}(h:P:=by simp [maxLen];omega):P:=h
theorem zec{P:Prop}(h:P:=by rw[sdata];exact hin):P:=h
theorem zee{P:Prop}(h:P:=by rw[bsize];exact hlt):P:=h
theorem zex{P:Prop}(h:P:=by simp [Res.comes, *]):P:=h
theorem zdO{P:Prop}(h:P:=by rw[← e];exact hk):P:=h
theorem zdS{P:Prop}(h:P:=by have:=HD.out;omega):P:=h
theorem zdG{P:Prop}(h:P:=by rw[HLN.out];omega):P:=h
theorem zdQ{P:Prop}(h:P:=by rw[sdata];exact h):P:=h
theorem zep{P:Prop}(h:P:=by rw[HSD.out];omega):P:=h
theorem zdW{P:Prop}(h:P:=by rw[sdata];omega):P:=h
theorem zeA{P:Prop}(h:P:=by rw[zfw];simp):P:=h
theorem zeC{P:Prop}(h:P:=by unfold run;simp):P:=h
theorem zdV{P:Prop}(h:P:=by simp;try omega):P:=h
theorem zdY{P:Prop}(h:P:=by rw[HW.out];rfl):P:=h
theorem zdJ{P:Prop}(h:P:=by simpa using h):P:=h
theorem zeo{P:Prop}(h:P:=by rw[hc];decide):P:=h
theorem zdI{P:Prop}(h:P:=by rw[zfA]):P:=h
theorem zes{P:Prop}(h:P:=by rw[hcls];rfl):P:=h
theorem zdU{P:Prop}(h:P:=by simp;omega):P:=h
theorem zeQ{P:Prop}(h:P:=by kernel_rfl):P:=h
theorem zdD{P:Prop}(h:P:=by decide):P:=h
theorem zdC{P:Prop}(h:P:=by omega):P:=h
theorem zdF{P:Prop}(h:P:=by simp):P:=h
end Go.Proofs.YtcekbbkidipbnaaGreat
