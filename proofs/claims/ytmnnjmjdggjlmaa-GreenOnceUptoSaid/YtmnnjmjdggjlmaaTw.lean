/-
  Layer 8: what the cards want: a string's length; the program's Parts as the law has it.
-/
import Derived.Test.YtmnnjmjdggjlmaaTv
import Derived.Test.YtmnnjmjdggjlmaaTa
import Derived.Test.YtmnnjmjdggjlmaaTc
import Derived.Test.YtmnnjmjdggjlmaaTd
import Derived.Test.YtmnnjmjdggjlmaaQd
import Derived.Test.YtmnnjmjdggjlmaaQa
import Derived.Test.YtmnnjmjdggjlmaaQb
namespace Go.Proofs.Ytmnnjmjdggjlmaa.rd
open Go.RowKit

theorem string_light {H : Type} {s : ByteArray} (h : Light (H := H) 9 (.lit (.string s.data.toList))) : s.size ≤ 140737488351232 := by
  unfold Light at h
  have h2 : s.data.toList.length ≤ reachBytes := by simpa [DataW.weights] using h
  have e : s.data.toList.length = s.size := rfl
  rw [e] at h2
  exact h2
theorem gparts_c : PartsC 38 := fun t w n h => (gparts_any t w n h).mono fun _ _ ⟨v, R, E, h1, h2, h3, h4, h5⟩ => ⟨v, h1, h2, R, E, h3, h4, h5⟩
theorem tie_lt {w : World} {t : Tree} {n : Rn} (h : Tie w (· < w.heap.size) t n) : Hid (TieB w t n) := Lib.hid ⟨_, h, fun _ hk => hk⟩
end Go.Proofs.Ytmnnjmjdggjlmaa.rd
