/- read: what a piece is: its length, its kind. -/
import Derived.Test.YtlobegpjenabaaaGreatDoorRefVars
import Derived.Test.YtlobegpjenabaaaGreatDoorShelf
namespace Go.Proofs.YtlobegpjenabaaaGreatDoor
open Go.RowKit
set_option linter.unusedSimpArgs false
set_option linter.unusedVariables false

/-- What the library keeps as internal/bytealg.MaxLen is some int. -/
def MaxOk (w : World) : Prop := ∃ m, w.cell? ⟨3, 0, none⟩ = some (.int .i64 m)
theorem MaxOk.lt {w : World} (h : MaxOk w) : 3 < w.heap.size := by
  obtain ⟨m, h⟩ := h
  rcases Nat.lt_or_ge 3 w.heap.size with hlt | hge
  · exact hlt
  · exfalso; simp only [World.cell?] at h; rw [Array.getElem?_eq_none hge] at h; cases h
theorem MaxOk.below {w w' : World} {B : Nat} (h : MaxOk w) (hb : Below B w w') (hB : 3 < B) : MaxOk w' := by
  obtain ⟨m, h⟩ := h
  exact ⟨m, by rw [hb.cell (p := ⟨3, 0, none⟩) hB]; exact h⟩
theorem MaxOk.upd {w w' : World} {S : Nat → Prop} (h : MaxOk w) (hu : Upd S w w') (hs : ¬ S 3) : MaxOk w' := by
  have hl := h.lt
  obtain ⟨m, h⟩ := h
  exact ⟨m, by rw [World.cell?_of_block (w := w) (hu.block 3 hl hs)]; exact h⟩

theorem idx_sign : ∀ n, n < 256 → decide (0 ≤ Lib.indexByte [43, 45, 42, 47, 60, 62, 61, 63, 33, 35] (Nat.toUInt8 n)) = (signs.contains (n : Int) || (n : Int) == 35) := by decide +kernel

theorem tokB_of (b : Int) (h0 : 0 ≤ b) (h1 : b ≤ 255) : (sortI b != 0) = (lowB b || (digB b || decide (0 ≤ Lib.indexByte [43, 45, 42, 47, 60, 62, 61, 63, 33, 35] b.toNat.toUInt8))) := by
  obtain ⟨n, rfl⟩ := Int.eq_ofNat_of_zero_le h0
  rw [show ((n : Int)).toNat = n from rfl, idx_sign n (by omega)]
  unfold sortI
  cases digB n <;> cases lowB n <;> cases h : ((n : Int) == 35) <;> cases hh : signs.contains (n : Int) <;> simp_all

set_option maxHeartbeats 1000000 in
theorem isTokenByte_any (b : Int) (h0 : 0 ≤ b) (h1 : b ≤ 255) (w : World) :
    Calls Tryz.prog 134 #[.int .u8 b] w fun e w' => e = .returned (.bool (sortI b != 0)) ∧ w' = w := by
  have HT := hide (tokB_of b h0 h1)
  cases hl : lowB b with
  | true =>
    have h2 : 97 ≤ b ∧ b ≤ 122 := by simpa [lowB] using hl
    obtain ⟨h2, h3⟩ := h2
    go_enter Tryz.func134, Tryz.ntmps134
    go_wp2
    go_ret
    exact ⟨ret_bool (by rw [HT.out, hl]; rfl), rfl⟩
  | false =>
    have h2 : ¬ 97 ≤ b ∨ (97 ≤ b ∧ ¬ b ≤ 122) := by simp [lowB] at hl; omega
    have HL := hide hl
    clear hl
    rcases h2 with h2 | ⟨h2, h3⟩
    all_goals
      cases hd : digB b with
      | true =>
        go_enter Tryz.func134, Tryz.ntmps134
        go_wp2_with (go_at_call 199; refine (isDigit_any _ _).mono ?_; rintro e w' ⟨rfl, rfl⟩)
        go_ret
        exact ⟨ret_bool (by rw [HT.out, HL.out, hd]; rfl), rfl⟩
      | false =>
        go_enter Tryz.func134, Tryz.ntmps134
        go_wp2_with (first | (go_at_call 199; refine (isDigit_any _ _).mono ?_; rintro e w' ⟨rfl, rfl⟩) | (go_at_call 200; refine (Tryz.strings_IndexByte _ _ _).mono ?_; rintro e w' ⟨rfl, rfl⟩))
        go_ret
        exact ⟨ret_bool (by rw [HT.out, HL.out, hd]; rfl), rfl⟩

theorem sortI_dig (b : Int) : (sortI b == 1) = digB b := by
  unfold sortI
  cases digB b <;> simp
  split
  · simp
  · split
    · simp
    · split <;> simp

/-- Are the first k digits? -/
def digsT (s : ByteArray) (k : Nat) : Bool := (s.data.toList.take k).all fun c => sortU c == 1
theorem digsT_step (s : ByteArray) (k : Nat) (h : k < s.size) : digsT s (k + 1) = (digsT s k && digB s[k].toNat) := by
  unfold digsT; rw [take_snoc s k h, List.all_append, ← sortI_dig]; simp [sortU]
theorem digsT_no (s : ByteArray) (k : Nat) (hk : k < s.size) (h : digB s[k].toNat = false) : (s.data.toList.all fun c => sortU c == 1) = false := by
  rw [List.all_eq_false]
  exact ⟨s[k], by rw [← at_getD s k hk, List.getD_eq_getElem?_getD, List.getElem?_eq_getElem (by simpa using hk)]; exact List.getElem_mem _, by simp [sortU]; rw [← Bool.not_eq_true] at h; rw [← sortI_dig] at h; simpa using h⟩

set_option maxHeartbeats 1000000 in
theorem isDigits_any (s : ByteArray) (hs : s.size ≤ maxLen) (w : World) :
    Calls Tryz.prog 202 #[.string s] w fun e w' => e = .returned (.bool (s.data.toList.all fun c => sortU c == 1)) ∧ w' = w := by
  unfold maxLen at hs
  have hr : ∃ r, r = (s.data.toList.all fun c => sortU c == 1) := ⟨_, rfl⟩
  obtain ⟨r, hr⟩ := hr
  rw [← hr]
  have HR := hide hr
  clear hr
  go_enter Tryz.func202, Tryz.ntmps202
  go_wp2
  go_loop [6] (fun v => ∃ k : Nat, k ≤ s.size ∧ v = .int .i64 k ∧ digsT s k = true) (fun v => s.size - (intOf v).toNat)
  case atStart => exact ⟨0, Nat.zero_le _, rfl, rfl⟩
  case round =>
    obtain ⟨k, hk, rfl, hd⟩ := hrel
    have HD := hide hd
    clear hd
    by_cases hlt : k < s.size
    · cases hb : digB s[k].toNat with
      | true =>
        have HS := hide (digsT_step s k hlt)
        go_wp2_with (go_at_call 199; refine (isDigit_any _ _).mono ?_; rintro e w' ⟨rfl, rfl⟩)
        go_round
        case rel => exact ⟨k + 1, by omega, by go_num, by rw [HS.out, HD.out, hb]; rfl⟩
        case measure => simp [intOf]; omega
      | false =>
        have HN := hide (digsT_no s k hlt hb)
        go_wp2_with (go_at_call 199; refine (isDigit_any _ _).mono ?_; rintro e w' ⟨rfl, rfl⟩)
        go_ret
        exact ⟨ret_bool (by rw [HR.out, HN.out]), rfl⟩
    · have hk : k = s.size := by omega
      subst hk
      go_wp2
      go_ret
      exact ⟨ret_bool (by rw [HR.out]; have := HD.out; unfold digsT at this; rw [List.take_of_length_le (by simp)] at this; exact this.symm), rfl⟩

set_option maxHeartbeats 1000000 in
theorem tokenLength_any (s : ByteArray) (hs : s.size ≤ maxLen) (w : World) :
    Calls Tryz.prog 135 #[.string s] w fun e w' => e = .returned (.int .i64 (tokN s.data.toList)) ∧ w' = w := by
  unfold maxLen at hs
  have hr : ∃ r : Int, r = (tokN s.data.toList : Nat) := ⟨_, rfl⟩
  obtain ⟨r, hr⟩ := hr
  rw [← hr]
  have HR : Hid (r = (tokEnd s.data.toList 0 : Nat)) := by show _ = _; rw [hr]; simp [tokEnd]
  clear hr
  go_enter Tryz.func135, Tryz.ntmps135
  go_wp2
  go_loop [6] (fun v => ∃ k : Nat, k ≤ s.size ∧ v = .int .i64 k ∧ tokEnd s.data.toList k = tokEnd s.data.toList 0) (fun v => s.size - (intOf v).toNat)
  case atStart => exact ⟨0, Nat.zero_le _, rfl, rfl⟩
  case round =>
    obtain ⟨k, hk, rfl, hd⟩ := hrel
    have HD := hide hd
    clear hd
    by_cases hlt : k < s.size
    · have hb0 : (0 : Int) ≤ (s[k].toNat : Int) := by omega
      have hb1 : (s[k].toNat : Int) ≤ 255 := by have := s[k].toNat_lt; omega
      cases hb : (sortI s[k].toNat != 0) with
      | true =>
        have HS := hide (tok_go s k hlt (by simpa using hb))
        go_wp2_with (go_at_call 134; refine (isTokenByte_any _ (by omega) (by omega) _).mono ?_; rintro e w' ⟨rfl, rfl⟩)
        go_round
        case rel => exact ⟨k + 1, by omega, by go_num, by rw [HS.out]; exact HD.out⟩
        case measure => simp [intOf]; omega
      | false =>
        have HN := hide (tok_stop s k hlt (by simpa using hb))
        go_wp2_with (go_at_call 134; refine (isTokenByte_any _ (by omega) (by omega) _).mono ?_; rintro e w' ⟨rfl, rfl⟩)
        go_ret
        exact ⟨ret_int (by rw [HR.out, ← HD.out, HN.out]), rfl⟩
    · have HN := hide (tok_last s k (by omega))
      have hk : k = s.size := by omega
      subst hk
      go_wp2
      go_ret
      exact ⟨ret_int (by rw [HR.out, ← HD.out, HN.out]), rfl⟩

/-- How far a comment goes. -/
def cmN : List UInt8 → Nat
  | [] => 0
  | c :: r => if c.toNat = 10 then 0 else cmN r + 1
theorem cmN_idx : ∀ (l : List UInt8), (0 ≤ Lib.indexByte l 10 → Lib.indexByte l 10 = cmN l) ∧ (¬ 0 ≤ Lib.indexByte l 10 → cmN l = l.length)
  | [] => by simp [Lib.indexByte, cmN]
  | c :: r => by
    have ih := cmN_idx r
    simp only [Lib.indexByte, cmN, List.length_cons]
    by_cases h : c = 10
    · subst h; simp
    · have h' : ¬ c.toNat = 10 := fun e => h (UInt8.toNat.inj (by simpa using e))
      rw [if_neg (by simpa using h), if_neg h']
      by_cases h2 : Lib.indexByte r 10 = -1
      · rw [if_pos (by simpa using h2)]
        exact ⟨fun h => absurd h (by omega), fun _ => by rw [ih.2 (by omega)]⟩
      · rw [if_neg (by simpa using h2)]
        by_cases h3 : 0 ≤ Lib.indexByte r 10
        · have := ih.1 h3
          exact ⟨fun _ => by omega, fun h => absurd h (by omega)⟩
        · exact ⟨fun h => by omega, fun _ => by rw [ih.2 h3]⟩

set_option maxHeartbeats 1000000 in
theorem commentLength_any (s : ByteArray) (w : World) :
    Calls Tryz.prog 136 #[.string s] w fun e w' => e = .returned (.int .i64 (cmN s.data.toList)) ∧ w' = w := by
  have HC := hide (cmN_idx s.data.toList)
  by_cases h : 0 ≤ Lib.indexByte s.data.toList 10
  · go_enter Tryz.func136, Tryz.ntmps136
    go_wp2_with (go_at_call 200; refine (Tryz.strings_IndexByte _ _ _).mono ?_; rintro e w' ⟨rfl, rfl⟩)
    go_ret
    exact ⟨ret_int (HC.out.1 h), rfl⟩
  · go_enter Tryz.func136, Tryz.ntmps136
    go_wp2_with (go_at_call 200; refine (Tryz.strings_IndexByte _ _ _).mono ?_; rintro e w' ⟨rfl, rfl⟩)
    go_ret
    exact ⟨ret_int (by rw [HC.out.2 h]; simp), rfl⟩

/-- The length of what stands first. -/
def lenP (l : List UInt8) : Nat := if sortU (l.headD 0) != 0 then tokN l else if (l.headD 0).toNat = 59 then cmN l else 1

set_option maxHeartbeats 1000000 in
theorem length_any (s : ByteArray) (h0 : 0 < s.size) (hs : s.size ≤ maxLen) (w : World) :
    Calls Tryz.prog 82 #[.string s] w fun e w' => e = .returned (.int .i64 (lenP s.data.toList)) ∧ w' = w := by
  have hd : s.data.toList.headD 0 = s[0] := by rw [first_at s h0]; rfl
  have HL : Hid (lenP s.data.toList = if sortI s[0].toNat != 0 then tokN s.data.toList else if s[0].toNat = 59 then cmN s.data.toList else 1) := by show _ = _; unfold lenP; rw [hd]; rfl
  clear hd
  have hb0 : (0 : Int) ≤ (s[0].toNat : Int) := by omega
  have hb1 : (s[0].toNat : Int) ≤ 255 := by have := s[0].toNat_lt; omega
  cases hb : (sortI s[0].toNat != 0) with
  | true =>
    go_enter Tryz.func82, Tryz.ntmps82
    go_wp2_with (first | (go_at_call 134; refine (isTokenByte_any _ (by omega) (by omega) _).mono ?_; rintro e w' ⟨rfl, rfl⟩) | (go_at_call 135; refine (tokenLength_any _ hs _).mono ?_; rintro e w' ⟨rfl, rfl⟩))
    go_ret
    exact ⟨ret_int (by rw [HL.out, hb]; rfl), rfl⟩
  | false =>
    by_cases hc : s[0].toNat = 59
    · have bc : ((s[0].toNat : Int) == 59) = true := by rw [beq_iff_eq]; omega
      have HCC := hide hc
      clear hc
      go_enter Tryz.func82, Tryz.ntmps82
      go_wp2_with (first | (go_at_call 134; refine (isTokenByte_any _ (by omega) (by omega) _).mono ?_; rintro e w' ⟨rfl, rfl⟩) | (go_at_call 136; refine (commentLength_any _ _).mono ?_; rintro e w' ⟨rfl, rfl⟩))
      go_ret
      exact ⟨ret_int (by rw [HL.out, hb, if_neg (by simp), if_pos HCC.out]), rfl⟩
    · have bc : ((s[0].toNat : Int) == 59) = false := by rw [beq_eq_false_iff_ne]; omega
      have HCC := hide hc
      clear hc
      go_enter Tryz.func82, Tryz.ntmps82
      go_wp2_with (go_at_call 134; refine (isTokenByte_any _ (by omega) (by omega) _).mono ?_; rintro e w' ⟨rfl, rfl⟩)
      go_ret
      exact ⟨ret_int (by rw [HL.out, hb, if_neg (by simp), if_neg HCC.out]; rfl), rfl⟩
end Go.Proofs.YtlobegpjenabaaaGreatDoor
