/-
  Escapes: a sign; an escape at a place.
-/
import Derived.Test.YtjbamlmdeopcaaaDoorEsc
namespace Go.Proofs.YtjbamlmdeopcaaaDoor.tok
open Go.RowKit

set_option maxRecDepth 100000 in
set_option maxHeartbeats 4000000 in
theorem signEsc_any (c q : UInt8) (w : World) : Calls Tryd.prog 58 #[.int .u8 (c.toNat : Int), .int .u8 (q.toNat : Int)] w (EscPost (signE c q) w) := by
  have hc0 : (0 : Int) ≤ (c.toNat : Int) := by omega
  have hc1 : (c.toNat : Int) ≤ 255 := by have := UInt8.toNat_lt c; omega
  have hE : signE c q = signE c q := rfl
  conv at hE => rhs; rw [signE]
  by_cases g97 : c = 97
  · rw [if_pos g97] at hE
    have hz : ((c.toNat : Int) == 97) = true := byte_eq (d := 97) g97
    have HE := Lib.hid hE
    clear g97
    clear hE
    go_enter Tryd.func58, Tryd.ntmps58
    go_wp2_with fail
    refine bodyPost_ret (v := .agg #[.int .i64 7, .bool false, .int .i64 2]) (by simp [results, Tryd.results58, go_sem]) rfl ⟨by rw [HE.out]; rfl, ?_⟩
    exact (Below.refl _ _).alloc (Nat.le_refl _) _
  rw [if_neg g97] at hE
  have z97 : ((c.toNat : Int) == 97) = false := byte_ne (d := 97) g97
  clear g97
  by_cases g98 : c = 98
  · rw [if_pos g98] at hE
    have hz : ((c.toNat : Int) == 98) = true := byte_eq (d := 98) g98
    have HE := Lib.hid hE
    clear g98
    clear hE
    go_enter Tryd.func58, Tryd.ntmps58
    go_wp2_with fail
    refine bodyPost_ret (v := .agg #[.int .i64 8, .bool false, .int .i64 2]) (by simp [results, Tryd.results58, go_sem]) rfl ⟨by rw [HE.out]; rfl, ?_⟩
    exact (Below.refl _ _).alloc (Nat.le_refl _) _
  rw [if_neg g98] at hE
  have z98 : ((c.toNat : Int) == 98) = false := byte_ne (d := 98) g98
  clear g98
  by_cases g102 : c = 102
  · rw [if_pos g102] at hE
    have hz : ((c.toNat : Int) == 102) = true := byte_eq (d := 102) g102
    have HE := Lib.hid hE
    clear g102
    clear hE
    go_enter Tryd.func58, Tryd.ntmps58
    go_wp2_with fail
    refine bodyPost_ret (v := .agg #[.int .i64 12, .bool false, .int .i64 2]) (by simp [results, Tryd.results58, go_sem]) rfl ⟨by rw [HE.out]; rfl, ?_⟩
    exact (Below.refl _ _).alloc (Nat.le_refl _) _
  rw [if_neg g102] at hE
  have z102 : ((c.toNat : Int) == 102) = false := byte_ne (d := 102) g102
  clear g102
  by_cases g110 : c = 110
  · rw [if_pos g110] at hE
    have hz : ((c.toNat : Int) == 110) = true := byte_eq (d := 110) g110
    have HE := Lib.hid hE
    clear g110
    clear hE
    go_enter Tryd.func58, Tryd.ntmps58
    go_wp2_with fail
    refine bodyPost_ret (v := .agg #[.int .i64 10, .bool false, .int .i64 2]) (by simp [results, Tryd.results58, go_sem]) rfl ⟨by rw [HE.out]; rfl, ?_⟩
    exact (Below.refl _ _).alloc (Nat.le_refl _) _
  rw [if_neg g110] at hE
  have z110 : ((c.toNat : Int) == 110) = false := byte_ne (d := 110) g110
  clear g110
  by_cases g114 : c = 114
  · rw [if_pos g114] at hE
    have hz : ((c.toNat : Int) == 114) = true := byte_eq (d := 114) g114
    have HE := Lib.hid hE
    clear g114
    clear hE
    go_enter Tryd.func58, Tryd.ntmps58
    go_wp2_with fail
    refine bodyPost_ret (v := .agg #[.int .i64 13, .bool false, .int .i64 2]) (by simp [results, Tryd.results58, go_sem]) rfl ⟨by rw [HE.out]; rfl, ?_⟩
    exact (Below.refl _ _).alloc (Nat.le_refl _) _
  rw [if_neg g114] at hE
  have z114 : ((c.toNat : Int) == 114) = false := byte_ne (d := 114) g114
  clear g114
  by_cases g116 : c = 116
  · rw [if_pos g116] at hE
    have hz : ((c.toNat : Int) == 116) = true := byte_eq (d := 116) g116
    have HE := Lib.hid hE
    clear g116
    clear hE
    go_enter Tryd.func58, Tryd.ntmps58
    go_wp2_with fail
    refine bodyPost_ret (v := .agg #[.int .i64 9, .bool false, .int .i64 2]) (by simp [results, Tryd.results58, go_sem]) rfl ⟨by rw [HE.out]; rfl, ?_⟩
    exact (Below.refl _ _).alloc (Nat.le_refl _) _
  rw [if_neg g116] at hE
  have z116 : ((c.toNat : Int) == 116) = false := byte_ne (d := 116) g116
  clear g116
  by_cases g118 : c = 118
  · rw [if_pos g118] at hE
    have hz : ((c.toNat : Int) == 118) = true := byte_eq (d := 118) g118
    have HE := Lib.hid hE
    clear g118
    clear hE
    go_enter Tryd.func58, Tryd.ntmps58
    go_wp2_with fail
    refine bodyPost_ret (v := .agg #[.int .i64 11, .bool false, .int .i64 2]) (by simp [results, Tryd.results58, go_sem]) rfl ⟨by rw [HE.out]; rfl, ?_⟩
    exact (Below.refl _ _).alloc (Nat.le_refl _) _
  rw [if_neg g118] at hE
  have z118 : ((c.toNat : Int) == 118) = false := byte_ne (d := 118) g118
  clear g118
  by_cases g92 : c = 92
  · rw [if_pos (.inl g92)] at hE
    have hz : ((c.toNat : Int) == 92) = true := byte_eq (d := 92) g92
    have HE := Lib.hid hE
    clear g92
    clear hE
    go_enter Tryd.func58, Tryd.ntmps58
    go_wp2_with fail
    refine bodyPost_ret (v := .agg #[.int .i64 (c.toNat : Int), .bool false, .int .i64 2]) (by simp [results, Tryd.results58, go_sem]) rfl ⟨by rw [HE.out]; rfl, ?_⟩
    exact (Below.refl _ _).alloc (Nat.le_refl _) _
  have z92 : ((c.toNat : Int) == 92) = false := byte_ne (d := 92) g92
  by_cases gq : c = q
  · rw [if_pos (.inr gq)] at hE
    have hz : ((c.toNat : Int) == (q.toNat : Int)) = true := byte_eq gq
    have HE := Lib.hid hE
    clear gq g92
    clear hE
    go_enter Tryd.func58, Tryd.ntmps58
    go_wp2_with fail
    refine bodyPost_ret (v := .agg #[.int .i64 (c.toNat : Int), .bool false, .int .i64 2]) (by simp [results, Tryd.results58, go_sem]) rfl ⟨by rw [HE.out]; rfl, ?_⟩
    exact (Below.refl _ _).alloc (Nat.le_refl _) _
  have zq : ((c.toNat : Int) == (q.toNat : Int)) = false := byte_ne gq
  rw [if_neg (fun g => g.elim g92 gq)] at hE
  have HE := Lib.hid hE
  clear gq g92
  clear hE
  go_enter Tryd.func58, Tryd.ntmps58
  go_wp2_with fail
  refine bodyPost_ret (v := .agg #[.int .i64 0, .bool false, .int .i64 0]) (by simp [results, Tryd.results58, go_sem]) rfl ⟨by rw [HE.out]; rfl, ?_⟩
  exact (Below.refl _ _).alloc (Nat.le_refl _) _

theorem bcell {W w1 : World} (hb : Below W.heap.size W w1) : (∀ b o, b < W.heap.size → w1.cell? ⟨b, o, none⟩ = W.cell? ⟨b, o, none⟩) ∧ (∀ b o, b < W.heap.size → w1.frozen? ⟨b, o, none⟩ = W.frozen? ⟨b, o, none⟩) :=
  ⟨fun b o h => hb.cell (p := ⟨b, o, none⟩) h, fun b o h => hb.frozen (p := ⟨b, o, none⟩) h⟩
theorem escV_none {l : List UInt8} {i : Nat} {q : UInt8} (h : l.length ≤ i + 1) : escV l i q = (0, false, 0) := by
  unfold escV
  rw [List.getElem?_eq_none h]
theorem escV_some {l : List UInt8} {i : Nat} {q c : UInt8} (h : l[i + 1]? = some c) : escV l i q = if c = 120 then byteE l i 2 2 16 else if c = 117 then runeE l i 4 else if c = 85 then runeE l i 8
    else if c = 48 ∨ c = 49 ∨ c = 50 ∨ c = 51 ∨ c = 52 ∨ c = 53 ∨ c = 54 ∨ c = 55 then byteE l i 1 3 8 else signE c q := by
  unfold escV
  rw [h]

set_option maxRecDepth 100000 in
set_option maxHeartbeats 4000000 in
theorem escapeAt_any (s : ByteArray) (i : Nat) (q : UInt8) (w : World) (hs : s.size ≤ 140737488355328) (hi : i < s.size) :
    Calls Tryd.prog 50 #[.string s, .int .i64 i, .int .u8 (q.toNat : Int)] w (EscPost (escV s.data.toList i q) w) := by
  by_cases hin : s.size ≤ i + 1
  · have hd : decide ((s.size : Int) ≤ (i : Int) + 1) = true := decide_eq_true (by omega)
    have HE := Lib.hid (escV_none (l := s.data.toList) (i := i) (q := q) (by rw [sdata]; exact hin))
    go_enter Tryd.func50, Tryd.ntmps50
    go_wp2_with fail
    refine bodyPost_ret (v := .agg #[.int .i64 0, .bool false, .int .i64 0]) (by simp [results, Tryd.results50, go_sem]) rfl ⟨by rw [HE.out]; rfl, ?_⟩
    exact (Below.refl _ _).alloc (Nat.le_refl _) _
  have hin' : i + 1 < s.size := by omega
  have hd : decide ((s.size : Int) ≤ (i : Int) + 1) = false := decide_eq_false (by omega)
  obtain ⟨c, hc⟩ : ∃ c, s[i + 1]'hin' = c := ⟨_, rfl⟩
  have hix : ∀ u : World, (Instr.index 9 (.string s) (.int .i64 ((i : Int) + 1))).run Tryd.prog u = .ok (.int .u8 (c.toNat : Int)) u := fun u => by
    rw [← hc]; exact index_at s _ (i + 1) (by omega) hin' u
  have hE := escV_some (q := q) (show s.data.toList[i + 1]? = some c by rw [List.getElem?_eq_getElem (by rw [sdata]; exact hin'), at_data hin', hc])
  clear hc hin hin'
  by_cases g120 : c = 120
  · rw [if_pos g120] at hE
    have hz : ((c.toNat : Int) == 120) = true := byte_eq (d := 120) g120
    have HE := Lib.hid hE
    obtain ⟨n, r, wd, hv⟩ : ∃ n r wd, byteE s.data.toList i 2 2 16 = (n, r, wd) := ⟨_, _, _, rfl⟩
    have HV := Lib.hid hv
    clear g120 hE hv
    go_enter Tryd.func50, Tryd.ntmps50
    go_wp2_with (go_at_call 56; refine (byteEsc_16 s i _ hs hi).mono ?_; rintro e w1 ⟨rfl, hb⟩; rw [HV.out]; have HB := Lib.hid hb; obtain ⟨hbc, hbf⟩ := bcell hb; have hbz := hb.size; simp at hbz; clear hb)
    refine bodyPost_ret (v := .agg #[.int .i64 n, .bool r, .int .i64 wd]) (by simp [results, Tryd.results50, hbc, go_sem]) rfl ⟨by rw [HE.out, HV.out], ?_⟩
    exact ((((Below.refl _ _).alloc (Nat.le_refl _) _).trans (HB.out.mono (by simp))).setCell (by simp) _).setCell (by simp) _ |>.setCell (by simp) _
  rw [if_neg g120] at hE
  have z120 : ((c.toNat : Int) == 120) = false := byte_ne (d := 120) g120
  clear g120
  by_cases g117 : c = 117
  · rw [if_pos g117] at hE
    have hz : ((c.toNat : Int) == 117) = true := byte_eq (d := 117) g117
    have HE := Lib.hid hE
    obtain ⟨n, r, wd, hv⟩ : ∃ n r wd, runeE s.data.toList i 4 = (n, r, wd) := ⟨_, _, _, rfl⟩
    have HV := Lib.hid hv
    clear g117 hE hv
    go_enter Tryd.func50, Tryd.ntmps50
    go_wp2_with (go_at_call 57; refine (runeEsc_any s i 4 _ hs hi (by omega)).mono ?_; rintro e w1 ⟨rfl, hb⟩; rw [HV.out]; have HB := Lib.hid hb; obtain ⟨hbc, hbf⟩ := bcell hb; have hbz := hb.size; simp at hbz; clear hb)
    refine bodyPost_ret (v := .agg #[.int .i64 n, .bool r, .int .i64 wd]) (by simp [results, Tryd.results50, hbc, go_sem]) rfl ⟨by rw [HE.out, HV.out], ?_⟩
    exact ((((Below.refl _ _).alloc (Nat.le_refl _) _).trans (HB.out.mono (by simp))).setCell (by simp) _).setCell (by simp) _ |>.setCell (by simp) _
  rw [if_neg g117] at hE
  have z117 : ((c.toNat : Int) == 117) = false := byte_ne (d := 117) g117
  clear g117
  by_cases g85 : c = 85
  · rw [if_pos g85] at hE
    have hz : ((c.toNat : Int) == 85) = true := byte_eq (d := 85) g85
    have HE := Lib.hid hE
    obtain ⟨n, r, wd, hv⟩ : ∃ n r wd, runeE s.data.toList i 8 = (n, r, wd) := ⟨_, _, _, rfl⟩
    have HV := Lib.hid hv
    clear g85 hE hv
    go_enter Tryd.func50, Tryd.ntmps50
    go_wp2_with (go_at_call 57; refine (runeEsc_any s i 8 _ hs hi (by omega)).mono ?_; rintro e w1 ⟨rfl, hb⟩; rw [HV.out]; have HB := Lib.hid hb; obtain ⟨hbc, hbf⟩ := bcell hb; have hbz := hb.size; simp at hbz; clear hb)
    refine bodyPost_ret (v := .agg #[.int .i64 n, .bool r, .int .i64 wd]) (by simp [results, Tryd.results50, hbc, go_sem]) rfl ⟨by rw [HE.out, HV.out], ?_⟩
    exact ((((Below.refl _ _).alloc (Nat.le_refl _) _).trans (HB.out.mono (by simp))).setCell (by simp) _).setCell (by simp) _ |>.setCell (by simp) _
  rw [if_neg g85] at hE
  have z85 : ((c.toNat : Int) == 85) = false := byte_ne (d := 85) g85
  clear g85
  by_cases g48 : c = 48
  · rw [if_pos (.inl g48)] at hE
    have hz : ((c.toNat : Int) == 48) = true := byte_eq (d := 48) g48
    have HE := Lib.hid hE
    obtain ⟨n, r, wd, hv⟩ : ∃ n r wd, byteE s.data.toList i 1 3 8 = (n, r, wd) := ⟨_, _, _, rfl⟩
    have HV := Lib.hid hv
    clear hE hv g48
    go_enter Tryd.func50, Tryd.ntmps50
    go_wp2_with (go_at_call 56; refine (byteEsc_8 s i _ hs hi).mono ?_; rintro e w1 ⟨rfl, hb⟩; rw [HV.out]; have HB := Lib.hid hb; obtain ⟨hbc, hbf⟩ := bcell hb; have hbz := hb.size; simp at hbz; clear hb)
    refine bodyPost_ret (v := .agg #[.int .i64 n, .bool r, .int .i64 wd]) (by simp [results, Tryd.results50, hbc, go_sem]) rfl ⟨by rw [HE.out, HV.out], ?_⟩
    exact ((((Below.refl _ _).alloc (Nat.le_refl _) _).trans (HB.out.mono (by simp))).setCell (by simp) _).setCell (by simp) _ |>.setCell (by simp) _
  have z48 : ((c.toNat : Int) == 48) = false := byte_ne (d := 48) g48
  by_cases g49 : c = 49
  · rw [if_pos (.inr (.inl g49))] at hE
    have hz : ((c.toNat : Int) == 49) = true := byte_eq (d := 49) g49
    have HE := Lib.hid hE
    obtain ⟨n, r, wd, hv⟩ : ∃ n r wd, byteE s.data.toList i 1 3 8 = (n, r, wd) := ⟨_, _, _, rfl⟩
    have HV := Lib.hid hv
    clear hE hv g48 g49
    go_enter Tryd.func50, Tryd.ntmps50
    go_wp2_with (go_at_call 56; refine (byteEsc_8 s i _ hs hi).mono ?_; rintro e w1 ⟨rfl, hb⟩; rw [HV.out]; have HB := Lib.hid hb; obtain ⟨hbc, hbf⟩ := bcell hb; have hbz := hb.size; simp at hbz; clear hb)
    refine bodyPost_ret (v := .agg #[.int .i64 n, .bool r, .int .i64 wd]) (by simp [results, Tryd.results50, hbc, go_sem]) rfl ⟨by rw [HE.out, HV.out], ?_⟩
    exact ((((Below.refl _ _).alloc (Nat.le_refl _) _).trans (HB.out.mono (by simp))).setCell (by simp) _).setCell (by simp) _ |>.setCell (by simp) _
  have z49 : ((c.toNat : Int) == 49) = false := byte_ne (d := 49) g49
  by_cases g50 : c = 50
  · rw [if_pos (.inr (.inr (.inl g50)))] at hE
    have hz : ((c.toNat : Int) == 50) = true := byte_eq (d := 50) g50
    have HE := Lib.hid hE
    obtain ⟨n, r, wd, hv⟩ : ∃ n r wd, byteE s.data.toList i 1 3 8 = (n, r, wd) := ⟨_, _, _, rfl⟩
    have HV := Lib.hid hv
    clear hE hv g48 g49 g50
    go_enter Tryd.func50, Tryd.ntmps50
    go_wp2_with (go_at_call 56; refine (byteEsc_8 s i _ hs hi).mono ?_; rintro e w1 ⟨rfl, hb⟩; rw [HV.out]; have HB := Lib.hid hb; obtain ⟨hbc, hbf⟩ := bcell hb; have hbz := hb.size; simp at hbz; clear hb)
    refine bodyPost_ret (v := .agg #[.int .i64 n, .bool r, .int .i64 wd]) (by simp [results, Tryd.results50, hbc, go_sem]) rfl ⟨by rw [HE.out, HV.out], ?_⟩
    exact ((((Below.refl _ _).alloc (Nat.le_refl _) _).trans (HB.out.mono (by simp))).setCell (by simp) _).setCell (by simp) _ |>.setCell (by simp) _
  have z50 : ((c.toNat : Int) == 50) = false := byte_ne (d := 50) g50
  by_cases g51 : c = 51
  · rw [if_pos (.inr (.inr (.inr (.inl g51))))] at hE
    have hz : ((c.toNat : Int) == 51) = true := byte_eq (d := 51) g51
    have HE := Lib.hid hE
    obtain ⟨n, r, wd, hv⟩ : ∃ n r wd, byteE s.data.toList i 1 3 8 = (n, r, wd) := ⟨_, _, _, rfl⟩
    have HV := Lib.hid hv
    clear hE hv g48 g49 g50 g51
    go_enter Tryd.func50, Tryd.ntmps50
    go_wp2_with (go_at_call 56; refine (byteEsc_8 s i _ hs hi).mono ?_; rintro e w1 ⟨rfl, hb⟩; rw [HV.out]; have HB := Lib.hid hb; obtain ⟨hbc, hbf⟩ := bcell hb; have hbz := hb.size; simp at hbz; clear hb)
    refine bodyPost_ret (v := .agg #[.int .i64 n, .bool r, .int .i64 wd]) (by simp [results, Tryd.results50, hbc, go_sem]) rfl ⟨by rw [HE.out, HV.out], ?_⟩
    exact ((((Below.refl _ _).alloc (Nat.le_refl _) _).trans (HB.out.mono (by simp))).setCell (by simp) _).setCell (by simp) _ |>.setCell (by simp) _
  have z51 : ((c.toNat : Int) == 51) = false := byte_ne (d := 51) g51
  by_cases g52 : c = 52
  · rw [if_pos (.inr (.inr (.inr (.inr (.inl g52)))))] at hE
    have hz : ((c.toNat : Int) == 52) = true := byte_eq (d := 52) g52
    have HE := Lib.hid hE
    obtain ⟨n, r, wd, hv⟩ : ∃ n r wd, byteE s.data.toList i 1 3 8 = (n, r, wd) := ⟨_, _, _, rfl⟩
    have HV := Lib.hid hv
    clear hE hv g48 g49 g50 g51 g52
    go_enter Tryd.func50, Tryd.ntmps50
    go_wp2_with (go_at_call 56; refine (byteEsc_8 s i _ hs hi).mono ?_; rintro e w1 ⟨rfl, hb⟩; rw [HV.out]; have HB := Lib.hid hb; obtain ⟨hbc, hbf⟩ := bcell hb; have hbz := hb.size; simp at hbz; clear hb)
    refine bodyPost_ret (v := .agg #[.int .i64 n, .bool r, .int .i64 wd]) (by simp [results, Tryd.results50, hbc, go_sem]) rfl ⟨by rw [HE.out, HV.out], ?_⟩
    exact ((((Below.refl _ _).alloc (Nat.le_refl _) _).trans (HB.out.mono (by simp))).setCell (by simp) _).setCell (by simp) _ |>.setCell (by simp) _
  have z52 : ((c.toNat : Int) == 52) = false := byte_ne (d := 52) g52
  by_cases g53 : c = 53
  · rw [if_pos (.inr (.inr (.inr (.inr (.inr (.inl g53))))))] at hE
    have hz : ((c.toNat : Int) == 53) = true := byte_eq (d := 53) g53
    have HE := Lib.hid hE
    obtain ⟨n, r, wd, hv⟩ : ∃ n r wd, byteE s.data.toList i 1 3 8 = (n, r, wd) := ⟨_, _, _, rfl⟩
    have HV := Lib.hid hv
    clear hE hv g48 g49 g50 g51 g52 g53
    go_enter Tryd.func50, Tryd.ntmps50
    go_wp2_with (go_at_call 56; refine (byteEsc_8 s i _ hs hi).mono ?_; rintro e w1 ⟨rfl, hb⟩; rw [HV.out]; have HB := Lib.hid hb; obtain ⟨hbc, hbf⟩ := bcell hb; have hbz := hb.size; simp at hbz; clear hb)
    refine bodyPost_ret (v := .agg #[.int .i64 n, .bool r, .int .i64 wd]) (by simp [results, Tryd.results50, hbc, go_sem]) rfl ⟨by rw [HE.out, HV.out], ?_⟩
    exact ((((Below.refl _ _).alloc (Nat.le_refl _) _).trans (HB.out.mono (by simp))).setCell (by simp) _).setCell (by simp) _ |>.setCell (by simp) _
  have z53 : ((c.toNat : Int) == 53) = false := byte_ne (d := 53) g53
  by_cases g54 : c = 54
  · rw [if_pos (.inr (.inr (.inr (.inr (.inr (.inr (.inl g54)))))))] at hE
    have hz : ((c.toNat : Int) == 54) = true := byte_eq (d := 54) g54
    have HE := Lib.hid hE
    obtain ⟨n, r, wd, hv⟩ : ∃ n r wd, byteE s.data.toList i 1 3 8 = (n, r, wd) := ⟨_, _, _, rfl⟩
    have HV := Lib.hid hv
    clear hE hv g48 g49 g50 g51 g52 g53 g54
    go_enter Tryd.func50, Tryd.ntmps50
    go_wp2_with (go_at_call 56; refine (byteEsc_8 s i _ hs hi).mono ?_; rintro e w1 ⟨rfl, hb⟩; rw [HV.out]; have HB := Lib.hid hb; obtain ⟨hbc, hbf⟩ := bcell hb; have hbz := hb.size; simp at hbz; clear hb)
    refine bodyPost_ret (v := .agg #[.int .i64 n, .bool r, .int .i64 wd]) (by simp [results, Tryd.results50, hbc, go_sem]) rfl ⟨by rw [HE.out, HV.out], ?_⟩
    exact ((((Below.refl _ _).alloc (Nat.le_refl _) _).trans (HB.out.mono (by simp))).setCell (by simp) _).setCell (by simp) _ |>.setCell (by simp) _
  have z54 : ((c.toNat : Int) == 54) = false := byte_ne (d := 54) g54
  by_cases g55 : c = 55
  · rw [if_pos (.inr (.inr (.inr (.inr (.inr (.inr (.inr (g55))))))))] at hE
    have hz : ((c.toNat : Int) == 55) = true := byte_eq (d := 55) g55
    have HE := Lib.hid hE
    obtain ⟨n, r, wd, hv⟩ : ∃ n r wd, byteE s.data.toList i 1 3 8 = (n, r, wd) := ⟨_, _, _, rfl⟩
    have HV := Lib.hid hv
    clear hE hv g48 g49 g50 g51 g52 g53 g54 g55
    go_enter Tryd.func50, Tryd.ntmps50
    go_wp2_with (go_at_call 56; refine (byteEsc_8 s i _ hs hi).mono ?_; rintro e w1 ⟨rfl, hb⟩; rw [HV.out]; have HB := Lib.hid hb; obtain ⟨hbc, hbf⟩ := bcell hb; have hbz := hb.size; simp at hbz; clear hb)
    refine bodyPost_ret (v := .agg #[.int .i64 n, .bool r, .int .i64 wd]) (by simp [results, Tryd.results50, hbc, go_sem]) rfl ⟨by rw [HE.out, HV.out], ?_⟩
    exact ((((Below.refl _ _).alloc (Nat.le_refl _) _).trans (HB.out.mono (by simp))).setCell (by simp) _).setCell (by simp) _ |>.setCell (by simp) _
  have z55 : ((c.toNat : Int) == 55) = false := byte_ne (d := 55) g55
  rw [if_neg (by simp only [not_or]; exact ⟨g48, g49, g50, g51, g52, g53, g54, g55⟩)] at hE
  have HE := Lib.hid hE
  obtain ⟨n, r, wd, hv⟩ : ∃ n r wd, signE c q = (n, r, wd) := ⟨_, _, _, rfl⟩
  have HV := Lib.hid hv
  clear hE hv g48 g49 g50 g51 g52 g53 g54 g55
  go_enter Tryd.func50, Tryd.ntmps50
  go_wp2_with (go_at_call 58; refine (signEsc_any c q _).mono ?_; rintro e w1 ⟨rfl, hb⟩; rw [HV.out]; have HB := Lib.hid hb; obtain ⟨hbc, hbf⟩ := bcell hb; have hbz := hb.size; simp at hbz; clear hb)
  refine bodyPost_ret (v := .agg #[.int .i64 n, .bool r, .int .i64 wd]) (by simp [results, Tryd.results50, hbc, go_sem]) rfl ⟨by rw [HE.out, HV.out], ?_⟩
  exact ((((Below.refl _ _).alloc (Nat.le_refl _) _).trans (HB.out.mono (by simp))).setCell (by simp) _).setCell (by simp) _ |>.setCell (by simp) _
end Go.Proofs.YtjbamlmdeopcaaaDoor.tok
