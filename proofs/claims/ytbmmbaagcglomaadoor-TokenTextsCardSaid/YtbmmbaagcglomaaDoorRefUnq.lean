/-
  The reference's Unquote: any text.
-/
import Derived.Test.YtbmmbaagcglomaaDoorRefUnqB
namespace Go.Proofs.YtbmmbaagcglomaaDoor.tok
open Go.RowKit

theorem pre_one {l : List UInt8} {c d : UInt8} (h : 0 < l.length) (e : l[0] = d) : Lib.hasPrefix l [c] = decide (d = c) := by
  cases l with
  | nil => simp at h
  | cons a t =>
    simp only [List.getElem_cons_zero] at e
    subst e
    by_cases g : a = c
    · subst g; simp [Lib.hasPrefix]
    · have : ¬ c = a := fun x => g x.symm
      simp [Lib.hasPrefix, List.isPrefixOf, g, this]
theorem refUnq_any (s : ByteArray) (w : World) (hs : s.size ≤ 140737488351232) :
    Calls Tryd.prog 28 #[.string s] w (UnqPost (unqOf s.data.toList) w) := by
  by_cases h : s.size = 0
  · have e : s.data.toList = [] := List.eq_nil_of_length_eq_zero (by rw [sdata]; exact h)
    have hu : unqOf s.data.toList = ([], 106, 0) := by rw [e]; rfl
    rw [hu]
    exact refUnq_none s w h
  have h1 : 0 < s.size := by omega
  have hl : 0 < s.data.toList.length := by rw [sdata]; exact h1
  obtain ⟨c, hc⟩ : ∃ c, s[0] = c := ⟨_, rfl⟩
  have p96 := pre_one (c := 96) hl ((at_data h1).trans hc)
  have p34 := pre_one (c := 34) hl ((at_data h1).trans hc)
  by_cases h96 : c = 96
  · have hu : unqOf s.data.toList = rawOf s.data.toList := by rw [unqOf, if_pos (by rw [p96]; exact decide_eq_true h96)]
    rw [hu]
    exact refUnq_raw s w hs h1 (hc.trans h96)
  by_cases h34 : c = 34
  · have hu : unqOf s.data.toList = uqAt s.data.toList 1 [] := by rw [unqOf, if_neg (by rw [p96, decide_eq_false h96]; decide), if_pos (by rw [p34]; exact decide_eq_true h34)]
    rw [hu]
    exact refUnq_text s w hs h1 (hc.trans h34)
  · have hu : unqOf s.data.toList = ([], 106, 0) := by rw [unqOf, if_neg (by rw [p96, decide_eq_false h96]; decide), if_neg (by rw [p34, decide_eq_false h34]; decide)]
    rw [hu]
    exact refUnq_other s w h1 c hc h96 h34
end Go.Proofs.YtbmmbaagcglomaaDoor.tok
