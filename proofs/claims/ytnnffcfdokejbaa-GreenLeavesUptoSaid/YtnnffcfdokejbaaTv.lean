/-
  Layer 8: the program's pool is what it is held to; the first examples.
-/
import Derived.Test.YtnnffcfdokejbaaTu
import Derived.Test.YtnnffcfdokejbaaTo
import Derived.Test.YtnnffcfdokejbaaTf
import Derived.Test.YtnnffcfdokejbaaQg
namespace Go.Proofs.Ytnnffcfdokejbaa.rd
open Go.RowKit

/-- The program's pool, with the blocks that are its own. -/
def Pl (w : World) (b : Nat) (D : Nat → Prop) (L : List Gr) : Prop := ∃ m vN, PoolG w b m vN L ∧ D = dd b m vN
theorem pool_c : PoolC Pl where
  keep := fun ⟨m, vN, h, e⟩ _ hs => ⟨m, vN, h.keep (by rw [e] at hs; exact hs), e⟩
  dead := fun ⟨m, vN, h, e⟩ k hk => h.lt k (by rw [e] at hk; exact hk)
  new := fun w => (new_any w).mono fun e w' ⟨b, m, h1, h2, h3, h4⟩ => ⟨b, dd b m (.slice none 0 0), h1, h2, ⟨m, _, h3, rfl⟩, h4⟩
  len := fun ⟨m, vN, h, e⟩ => glen_any h
  put := fun hp hT hTd hin hs hfew => by
    obtain ⟨m, vN, h, rfl⟩ := hp
    refine (gPut_any h hT hTd hin hs hfew).mono fun e w' ⟨h1, vN', h2, h3, h4⟩ => ⟨h1, dd _ m vN', ⟨m, vN', h2, rfl⟩, h3, fun k hk => ?_⟩
    rcases hk with hk | hk | hk
    · exact .inl (.inl hk)
    · exact .inl (.inr (.inl hk))
    · exact (h4 k hk).imp (fun e => .inr (.inr e)) id
  kids := fun ⟨m, vN, h, e⟩ id hid => kids_any h id hid
  text := fun ⟨m, vN, h, e⟩ id hid hsz => text_any h id hid hsz
  node := fun ⟨m, vN, h, e⟩ id a hid h0 h1 => node_any h id a hid h0 h1
theorem shown_c : ShownC := shown_law pool_c (gfind_t _)
end Go.Proofs.Ytnnffcfdokejbaa.rd
