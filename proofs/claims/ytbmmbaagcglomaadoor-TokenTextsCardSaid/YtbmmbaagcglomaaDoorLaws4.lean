/-
  The law TokenTexts.
-/
import Derived.Test.YtbmmbaagcglomaaDoorShown
import Derived.Test.YtbmmbaagcglomaaDoorRawBig
import Derived.Test.YtbmmbaagcglomaaDoorRefUnq
import Derived.Test.YtbmmbaagcglomaaDoorRefRuneB
namespace Go.Proofs.YtbmmbaagcglomaaDoor.tok
open Go.RowKit

set_option maxRecDepth 100000 in
set_option maxHeartbeats 4000000 in
theorem texts_law (s : ByteArray) (w : World) (hE : Env w) (hs : s.size ≤ 140737488351232) : Calls Tryd.prog 8 #[.string s] w (Gives (.bool true) w) := by
  have HE := Lib.hid hE
  obtain ⟨x, c, k, hu⟩ : ∃ x c k, unqOf s.data.toList = (x, c, k) := ⟨_, _, _, rfl⟩
  obtain ⟨u, d, j, hr⟩ : ∃ u d j, runeOf s.data.toList = (u, d, j) := ⟨_, _, _, rfl⟩
  have H1 : Hid (∀ u : World, Calls Tryd.prog 27 #[.string s] u (UnqPost (x, c, k) u)) := Lib.hid (fun u => hu ▸ unquote_big s u hs)
  have H2 : Hid (∀ u : World, Calls Tryd.prog 28 #[.string s] u (UnqPost (x, c, k) u)) := Lib.hid (fun u => hu ▸ refUnq_any s u hs)
  have H3 : Hid (∀ v : World, Env v → Calls Tryd.prog 29 #[.string s] v (Runed (u, d, j) v)) := Lib.hid (fun v hv => hr ▸ rune_any s v hv hs)
  have H4 : Hid (∀ v : World, Calls Tryd.prog 30 #[.string s] v (Runed (u, d, j) v)) := Lib.hid (fun v => hr ▸ refRune_any s v hs)
  clear hE hu hr hs
  go_enter Tryd.func8, Tryd.ntmps8
  go_wp2_with (go_at_call 10; refine (shown_any _ HE.out).mono ?_; rintro e w1 ⟨rfl, hb1⟩; have B1 := Lib.hid hb1; have z1 := hb1.size; clear hb1)
  refine (H1.out _).mono ?_
  rintro e w2 ⟨rfl, hb2⟩
  have B2 := Lib.hid (B1.out.trans (hb2.mono z1))
  have z2 := B2.out.size
  clear hb2 B1 z1
  go_wp2_with fail
  refine (H2.out _).mono ?_
  rintro e w3 ⟨rfl, hb3⟩
  have B3 := Lib.hid (B2.out.trans (hb3.mono z2))
  have z3 := B3.out.size
  clear hb3 B2 z2
  go_wp2_with fail
  refine (H3.out _ (HE.out.below B3.out)).mono ?_
  rintro e w4 ⟨rfl, hb4⟩
  have B4 := Lib.hid (B3.out.trans (hb4.mono z3))
  have z4 := B4.out.size
  clear hb4 B3 z3
  go_wp2_with fail
  refine (H4.out _).mono ?_
  rintro e w5 ⟨rfl, hb5⟩
  have B5 := Lib.hid (B4.out.trans (hb5.mono z4))
  clear hb5 B4 z4
  go_wp2_with fail
  go_ret
  exact ⟨rfl, B5.out⟩
end Go.Proofs.YtbmmbaagcglomaaDoor.tok
