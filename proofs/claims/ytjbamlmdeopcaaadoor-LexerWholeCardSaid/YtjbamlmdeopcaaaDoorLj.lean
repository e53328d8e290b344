/-
  lexer.next.
-/
import Derived.Test.YtjbamlmdeopcaaaDoorLi
namespace Go.Proofs.YtjbamlmdeopcaaaDoor.lx
open Go.RowKit Go.Proofs.YtjbamlmdeopcaaaDoor.tok

theorem run_is (k : Nat) (p : UInt8 → Bool) (hk : Asked k p) (ek : Enters Tryd.prog k) (l : List UInt8) (hl : l.length ≤ 4194304) (u : World) :
    Calls Tryd.prog 14 #[.string (B l), .func (.func k) #[] #[]] u (Ints (runL p l) u) := by
  have := run_any k p hk ek (B l) u (by rw [bsize]; omega)
  rw [bdata] at this
  exact this
theorem pre_is (s p : ByteArray) (l q : List UInt8) (hs : s.data.toList = l) (hp : p.data.toList = q) (u : World) : Calls Tryd.prog 11 #[.string s, .string p] u (Bools (Lib.hasPrefix l q) u) := by
  subst hs hp
  refine (Tryd.strings_HasPrefix s p u).mono ?_
  rintro e w' ⟨rfl, rfl⟩
  exact ⟨rfl, rfl⟩
theorem ctx_of (s : ByteArray) (at_ : Nat) (w : World) (hE : Env w) (hs : s.size ≤ 4194304) (h : at_ < s.size) :
    Ctx s at_ (at_ : Int) (B (s.data.toList.drop at_)) s[at_] (s.data.toList.drop at_) w := by
  have hl : (s.data.toList.drop at_).length = s.size - at_ := by rw [List.length_drop, sdata]
  have hbs : (B (s.data.toList.drop at_)).size = s.size - at_ := by rw [bsize, hl]
  have h0 : 0 < (B (s.data.toList.drop at_)).size := by omega
  have hd : s.data.toList.drop at_ = s[at_] :: s.data.toList.drop (at_ + 1) := List.drop_eq_getElem_cons (by rw [sdata]; exact h)
  have h00 : (B (s.data.toList.drop at_))[0]'h0 = s[at_] := by
    have : ∀ (l : List UInt8) (hh : 0 < (B l).size) (c : UInt8) (r : List UInt8), l = c :: r → (B l)[0]'hh = c := by
      rintro l hh c r rfl; rfl
    exact this _ h0 _ _ hd
  constructor
  · exact slice_from s at_ (by omega)
  · intro u
    rw [← h00]
    exact index_at (B (s.data.toList.drop at_)) 0 0 rfl h0 u
  · intro kind n u hn
    exact right_any kind at_ n u (by omega) hn
  · exact run_is 13 isBl isBlank_any (enters_of Tryd.func13 (by kernel_rfl) rfl) _ (by omega)
  · exact run_is 15 noFeed isNoFeed_any (enters_of Tryd.func15 (by kernel_rfl) rfl) _ (by omega)
  · have := runL_len isBl (s.data.toList.drop at_); omega
  · have := runL_len noFeed (s.data.toList.drop at_); omega
  · exact pre_is _ _ _ _ rfl rfl
  · exact pre_is _ _ _ _ (bdata _) rfl
  · exact pre_is _ _ _ _ (bdata _) rfl
  · intro u hu hp
    have h2 := (List.isPrefixOf_iff_prefix.1 hp).length_le
    rw [hl] at h2
    have := closed_any (B (s.data.toList.drop at_)) ⟨#[47, 42]⟩ ⟨#[42, 47]⟩ 4 105 at_ u (hE.below hu) (by omega) (by rw [hbs]; exact h2) (by decide) (by omega)
    rw [bdata] at this
    exact this
  · intro u hu
    have := closed_any (B (s.data.toList.drop at_)) ⟨#[96]⟩ ⟨#[96]⟩ 14 106 at_ u (hE.below hu) (by omega) (by rw [hbs]; show 1 ≤ _; omega) (by decide) (by omega)
    rw [bdata] at this
    exact this
  · intro u
    have := lexWord_any (B (s.data.toList.drop at_)) at_ u (by omega) (by omega)
    rwa [bdata] at this
  · intro u
    have := lexNumber_any (B (s.data.toList.drop at_)) at_ u (by omega) (by omega)
    rwa [bdata] at this
  · intro u hu hc
    have := quoted_any lang.str (B (s.data.toList.drop at_)) 13 106 at_ 34 u (by omega) h0 (by rw [h00]; exact hc) (by omega) lang.str_place (fun x v hx hv => said_str x v ((hE.below hu).below hv) hx)
    rwa [bdata] at this
  · intro u hu hc
    have := quoted_any lang.rune (B (s.data.toList.drop at_)) 12 107 at_ 39 u (by omega) h0 (by rw [h00]; exact hc) (by omega) lang.rune_place (fun x v hx hv => said_rune x v ((hE.below hu).below hv) hx)
    rwa [bdata] at this
  · intro u hu
    have := lexSign_any (B (s.data.toList.drop at_)) at_ u (hE.below hu) (by omega) h0 (by omega)
    rwa [bdata] at this
theorem next_any (s : ByteArray) (at_ : Nat) (w : World) (hE : Env w) (hs : s.size ≤ 4194304) (h : at_ < s.size) :
    Calls Tryd.prog 7 #[.string s, .int .i64 (at_ : Int)] w (Told (nxAt lang s.data.toList at_) at_ w) := by
  have C := ctx_of s at_ w hE hs h
  have hd : s.data.toList.drop at_ = s[at_] :: s.data.toList.drop (at_ + 1) := List.drop_eq_getElem_cons (by rw [sdata]; exact h)
  have hn : nxAt lang s.data.toList at_ = nxOf lang (cls (at_ == 0) (s.data.toList.drop at_)) (s.data.toList.drop at_) := rfl
  have h0 : at_ = 0 → s.data.toList.drop at_ = s.data.toList := by rintro rfl; rfl
  generalize s.data.toList.drop at_ = r at *
  generalize s[at_] = c at *
  have hcls : cls (at_ == 0) r = cls (at_ == 0) (c :: s.data.toList.drop (at_ + 1)) := by rw [hd]
  rw [cls, ← hd] at hcls
  rw [hn]
  by_cases h1 : ((at_ == 0) && Lib.hasPrefix r mark) = true
  · rw [if_pos h1] at hcls
    rw [Bool.and_eq_true, beq_iff_eq] at h1
    exact next_1 C _ (by rw [hcls]; rfl) (by omega) (by rw [← h0 h1.1]; exact h1.2)
  rw [if_neg h1] at hcls
  have g1 : (at_ : Int) ≠ 0 ∨ Lib.hasPrefix s.data.toList mark = false := by
    by_cases ha : at_ = 0
    · refine .inr ?_
      rw [← h0 ha]
      rw [ha] at h1
      simpa using h1
    · exact .inl (by omega)
  by_cases h2 : isBl c = true
  · rw [if_pos h2] at hcls
    exact next_2 C _ (by rw [hcls]; rfl) g1 h2
  rw [if_neg h2] at hcls
  have h2 : isBl c = false := by simpa using h2
  by_cases h3 : c = 10
  · rw [if_pos h3] at hcls
    exact next_3 C _ (by rw [hcls]; rfl) g1 h2 h3
  rw [if_neg h3] at hcls
  by_cases h4 : Lib.hasPrefix r [47, 47] = true
  · rw [if_pos h4] at hcls
    exact next_4 C _ (by rw [hcls]; rfl) g1 h2 h3 h4
  rw [if_neg h4] at hcls
  have h4 : Lib.hasPrefix r [47, 47] = false := by simpa using h4
  by_cases h5 : Lib.hasPrefix r [47, 42] = true
  · rw [if_pos h5] at hcls
    exact next_5 C _ (by rw [hcls]; rfl) g1 h2 h3 h4 h5
  rw [if_neg h5] at hcls
  have h5 : Lib.hasPrefix r [47, 42] = false := by simpa using h5
  by_cases h6 : isLt c = true
  · rw [if_pos h6] at hcls
    exact next_6 C _ (by rw [hcls]; rfl) g1 h2 h3 h4 h5 h6
  rw [if_neg h6] at hcls
  have h6 : isLt c = false := by simpa using h6
  by_cases h7 : isDg c = true
  · rw [if_pos h7] at hcls
    exact next_7 C _ (by rw [hcls]; rfl) g1 h2 h3 h4 h5 h6 h7
  rw [if_neg h7] at hcls
  have h7 : isDg c = false := by simpa using h7
  by_cases h8 : c = 34
  · rw [if_pos h8] at hcls
    exact next_8 C _ (by rw [hcls]; rfl) g1 h2 h3 h4 h5 h6 h7 h8
  rw [if_neg h8] at hcls
  by_cases h9 : c = 39
  · rw [if_pos h9] at hcls
    exact next_9 C _ (by rw [hcls]; rfl) g1 h2 h3 h4 h5 h6 h7 h8 h9
  rw [if_neg h9] at hcls
  by_cases h10 : c = 96
  · rw [if_pos h10] at hcls
    exact next_10 C _ (by rw [hcls]; rfl) g1 h2 h3 h4 h5 h6 h7 h8 h9 h10
  rw [if_neg h10] at hcls
  exact next_11 C _ (by rw [hcls]; rfl) g1 h2 h3 h4 h5 h6 h7 h8 h9 h10
end Go.Proofs.YtjbamlmdeopcaaaDoor.lx
