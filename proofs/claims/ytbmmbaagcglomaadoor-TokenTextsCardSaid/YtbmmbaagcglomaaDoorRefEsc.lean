/-
  The reference's Escape: any escape.
-/
import Derived.Test.YtbmmbaagcglomaaDoorRefEscD
import Derived.Test.YtbmmbaagcglomaaDoorRefEscE
import Derived.Test.YtbmmbaagcglomaaDoorRefEscF
namespace Go.Proofs.YtbmmbaagcglomaaDoor.tok
open Go.RowKit

theorem octal_step (c : UInt8) (ho : ¬ (c = 48 ∨ c = 49 ∨ c = 50 ∨ c = 51 ∨ c = 52 ∨ c = 53 ∨ c = 54 ∨ c = 55)) : nStep 8 (some 0) c = none := by
  have hd : isDig 8 c = false := by
    unfold isDig
    refine decide_eq_false (fun h => ho ?_)
    unfold digZ at h
    have h8 : c.toNat = 48 ∨ c.toNat = 49 ∨ c.toNat = 50 ∨ c.toNat = 51 ∨ c.toNat = 52 ∨ c.toNat = 53 ∨ c.toNat = 54 ∨ c.toNat = 55 := by
      split at h
      · omega
      · split at h
        · omega
        · split at h <;> omega
    rcases h8 with e | e | e | e | e | e | e | e
    · exact .inl (UInt8.toNat_inj.1 e)
    · exact .inr (.inl (UInt8.toNat_inj.1 e))
    · exact .inr (.inr (.inl (UInt8.toNat_inj.1 e)))
    · exact .inr (.inr (.inr (.inl (UInt8.toNat_inj.1 e))))
    · exact .inr (.inr (.inr (.inr (.inl (UInt8.toNat_inj.1 e)))))
    · exact .inr (.inr (.inr (.inr (.inr (.inl (UInt8.toNat_inj.1 e))))))
    · exact .inr (.inr (.inr (.inr (.inr (.inr (.inl (UInt8.toNat_inj.1 e)))))))
    · exact .inr (.inr (.inr (.inr (.inr (.inr (.inr (UInt8.toNat_inj.1 e)))))))
  rw [nStep, hd]
  rfl
theorem signE_none {c q : UInt8} (hns : ∀ k, k < 8 → saySigns.getD k 0 ≠ c) (hcq : c ≠ q) : signE c q = (0, false, 0) := by
  unfold signE
  rw [if_neg (fun g => hns 0 (by decide) g.symm), if_neg (fun g => hns 1 (by decide) g.symm), if_neg (fun g => hns 2 (by decide) g.symm), if_neg (fun g => hns 3 (by decide) g.symm), if_neg (fun g => hns 4 (by decide) g.symm), if_neg (fun g => hns 5 (by decide) g.symm), if_neg (fun g => hns 6 (by decide) g.symm), if_neg (fun g => g.elim (fun g => hns 7 (by decide) g.symm) hcq)]
theorem octal_none {l : List UInt8} {i : Nat} {c : UInt8} (hc : l[i + 1]? = some c) (ho : ¬ (c = 48 ∨ c = 49 ∨ c = 50 ∨ c = 51 ∨ c = 52 ∨ c = 53 ∨ c = 54 ∨ c = 55)) : numAt l (i + 1) 3 8 = none := by
  unfold numAt
  split
  · next h =>
    refine nTo_none h (k := 1) (by omega) ?_
    have h1 := nTo_succ (base := 8) (l := l) (i := i + 1) (k := 0) (by omega)
    rw [Nat.zero_add] at h1
    rw [h1]
    have hl : l[i + 1 + 0]'(by omega) = c := by
      have := List.getElem?_eq_getElem (l := l) (i := i + 1) (by omega)
      rw [hc] at this
      exact (Option.some.inj this).symm
    rw [hl]
    exact octal_step c ho
  · rfl
theorem refEsc_any (s : ByteArray) (i : Nat) (q : UInt8) (w : World) (hs : s.size ≤ 140737488355328) (hi : i < s.size) (hq : q = 34 ∨ q = 39) :
    Calls Tryd.prog 44 #[.string s, .int .i64 i, .int .u8 (q.toNat : Int)] w (RefEsc (escV s.data.toList i q) w) := by
  by_cases hin' : s.size ≤ i + 1
  · exact refEsc_end s i q w hs hin' hi
  have hin : i + 1 < s.size := by omega
  obtain ⟨c, hc⟩ : ∃ c, s[i + 1] = c := ⟨_, rfl⟩
  have hat : s.data.toList[i + 1]? = some c := by rw [List.getElem?_eq_getElem (by rw [sdata]; exact hin), at_data hin, hc]
  by_cases hcq : c = q
  · exact refEsc_quote s i q w hs hin (hc.trans hcq) hq
  by_cases hk : ∃ k, k < 8 ∧ saySigns.getD k 0 = c
  · obtain ⟨k, hk, e⟩ := hk
    exact refEsc_sign s i c q w hs hin hc hcq k hk e
  have hns : ∀ k, k < 8 → saySigns.getD k 0 ≠ c := fun k h e => hk ⟨k, h, e⟩
  have hev := escV_some (q := q) hat
  by_cases n120 : c = 120
  · rw [if_pos n120] at hev
    cases ho : numAt s.data.toList (i + 2) 2 16 with
    | none => exact refEsc_x_none s i c q w hs hin hc hcq n120 hev ho hns
    | some n =>
      have hb := numAt_bound (by omega) (by omega) ho
      exact refEsc_x_good s i c q w hs hin hc hcq n120 hev n ho (by omega) hns
  rw [if_neg n120] at hev
  by_cases n117 : c = 117
  · rw [if_pos n117] at hev
    cases ho : numAt s.data.toList (i + 2) 4 16 with
    | none => exact refEsc_u_none s i c q w hs hin hc hcq n120 n117 hev ho hns
    | some n =>
      have hb := numAt_bound (by omega) (by omega) ho
      by_cases h1 : n < 55296
      · exact refEsc_u_lo s i c q w hs hin hc hcq n120 n117 hev n ho h1 hns
      by_cases h2 : 57343 < n
      · exact refEsc_u_hi s i c q w hs hin hc hcq n120 n117 hev n ho (by omega) h2 hns
      · exact refEsc_u_bad s i c q w hs hin hc hcq n120 n117 hev n ho (by omega) (by omega) hns
  rw [if_neg n117] at hev
  by_cases n85 : c = 85
  · rw [if_pos n85] at hev
    cases ho : numAt s.data.toList (i + 2) 8 16 with
    | none => exact refEsc_U_none s i c q w hs hin hc hcq n120 n117 n85 hev ho hns
    | some n =>
      by_cases h0 : 1114111 < n
      · exact refEsc_U_big s i c q w hs hin hc hcq n120 n117 n85 hev n ho h0 hns
      by_cases h1 : n < 55296
      · exact refEsc_U_lo s i c q w hs hin hc hcq n120 n117 n85 hev n ho h1 hns
      by_cases h2 : 57343 < n
      · exact refEsc_U_hi s i c q w hs hin hc hcq n120 n117 n85 hev n ho (by omega) h2 hns
      · exact refEsc_U_bad s i c q w hs hin hc hcq n120 n117 n85 hev n ho (by omega) (by omega) hns
  rw [if_neg n85] at hev
  have hev2 : escV s.data.toList i q = byteE s.data.toList i 1 3 8 := by
    rw [hev]
    by_cases ho : c = 48 ∨ c = 49 ∨ c = 50 ∨ c = 51 ∨ c = 52 ∨ c = 53 ∨ c = 54 ∨ c = 55
    · rw [if_pos ho]
    · rw [if_neg ho, signE_none hns hcq, byteE, octal_none hat ho]
  cases ho : numAt s.data.toList (i + 1) 3 8 with
  | none => exact refEsc_d_none s i c q w hs hin hc hcq n120 n117 n85 hev2 ho hns
  | some n =>
    by_cases h0 : 255 < n
    · exact refEsc_d_big s i c q w hs hin hc hcq n120 n117 n85 hev2 n ho h0 hns
    · exact refEsc_d_good s i c q w hs hin hc hcq n120 n117 n85 hev2 n ho (by omega) hns
end Go.Proofs.YtbmmbaagcglomaaDoor.tok
