/- latheref.skip: behind spaces, newlines and comments. -/
import Derived.Test.YtlobegpjenabaaaGreatDoorLeaf
namespace Go.Proofs.YtlobegpjenabaaaGreatDoor
open Go.RowKit

theorem drop_at (s : ByteArray) (k : Nat) (h : k < s.size) : s.data.toList.drop k = s[k] :: s.data.toList.drop (k + 1) := by
  rw [List.drop_eq_getElem_cons (by simpa using h)]; rfl
theorem drop_end (s : ByteArray) (k : Nat) (h : s.size ≤ k) : s.data.toList.drop k = [] := by
  rw [List.drop_eq_nil_iff]; simpa using h
theorem len_eq (s : ByteArray) : s.data.toList.length = s.size := by simp

def commentTo (l : List UInt8) (i : Nat) : Nat := i + skipB true (l.drop i)

theorem skip_gap (s : ByteArray) (k : Nat) (h : k < s.size) (c : s[k].toNat = 32 ∨ s[k].toNat = 10) : skipTo s.data.toList (k + 1) = skipTo s.data.toList k := by
  simp only [skipTo]; rw [drop_at s k h]; simp only [skipB]; rw [if_pos c]; omega
theorem skip_cm (s : ByteArray) (k : Nat) (h : k < s.size) (c : s[k].toNat = 59) : commentTo s.data.toList k = skipTo s.data.toList k := by
  simp only [skipTo, commentTo]; rw [drop_at s k h]; simp only [skipB]; rw [if_neg (by omega), if_neg (by omega), if_pos c]
theorem skip_no (s : ByteArray) (k : Nat) (h : k < s.size) (c1 : ¬ s[k].toNat = 32) (c2 : ¬ s[k].toNat = 10) (c3 : ¬ s[k].toNat = 59) : skipTo s.data.toList k = k := by
  simp only [skipTo]; rw [drop_at s k h]; simp only [skipB]; rw [if_neg (by omega), if_neg c3]; rfl
theorem skip_end (s : ByteArray) (k : Nat) (h : s.size ≤ k) : skipTo s.data.toList k = k := by
  simp only [skipTo]; rw [drop_end s k h]; rfl
theorem cm_nl (s : ByteArray) (k : Nat) (h : k < s.size) (c : s[k].toNat = 10) : skipTo s.data.toList k = commentTo s.data.toList k := by
  simp only [skipTo, commentTo]; rw [drop_at s k h]; simp only [skipB]; rw [if_pos (by omega), if_pos c]
theorem cm_end (s : ByteArray) (k : Nat) (h : s.size ≤ k) : skipTo s.data.toList k = commentTo s.data.toList k := by
  simp only [skipTo, commentTo]; rw [drop_end s k h]; rfl
theorem cm_go (s : ByteArray) (k : Nat) (h : k < s.size) (c : ¬ s[k].toNat = 10) : commentTo s.data.toList (k + 1) = commentTo s.data.toList k := by
  simp only [commentTo]; rw [drop_at s k h]; simp only [skipB]; rw [if_neg c]; omega

theorem skipB_le : ∀ (l : List UInt8) (b : Bool), skipB b l ≤ l.length
  | [], b => by simp [skipB]
  | c :: r, false => by
    have h1 := skipB_le r false; have h2 := skipB_le r true
    simp only [skipB, List.length_cons]; split
    · omega
    · split <;> omega
  | c :: r, true => by
    have h1 := skipB_le r false; have h2 := skipB_le r true
    simp only [skipB, List.length_cons]; split <;> omega
theorem skipTo_le (l : List UInt8) (i : Nat) (h : i ≤ l.length) : skipTo l i ≤ l.length := by
  have := skipB_le (l.drop i) false; simp at this; unfold skipTo; omega
theorem le_skipTo (l : List UInt8) (i : Nat) : i ≤ skipTo l i := by unfold skipTo; omega

set_option maxHeartbeats 1000000 in
theorem skip_any (s : ByteArray) (i : Nat) (w : World) (hi : i ≤ s.size) (hs : s.size ≤ 1000) :
    Calls Tryz.prog 63 #[.string s, .int .i64 i] w fun e w' => e = .returned (.int .i64 (skipTo s.data.toList i)) ∧ w' = w := by
  go_enter Tryz.func63, Tryz.ntmps63
  go_wp2
  go_loop [1] (fun v => ∃ k : Nat, k ≤ s.size ∧ v = .int .i64 k ∧ skipTo s.data.toList k = skipTo s.data.toList i) (fun v => s.size - (intOf v).toNat)
  case atStart => exact ⟨i, hi, rfl, rfl⟩
  case round =>
    obtain ⟨k, hk, rfl, hT⟩ := hrel
    have HT : Hid (skipTo s.data.toList k = skipTo s.data.toList i) := hT
    clear hT
    by_cases hlt : k < s.size
    · by_cases c1 : s[k].toNat = 32
      · have b1 : ((s[k].toNat : Int) == 32) = true := by rw [beq_iff_eq]; omega
        have C1 : Hid (s[k].toNat = 32) := c1
        clear c1
        go_wp2
        go_round
        case rel => exact ⟨k + 1, by omega, by go_num, by rw [skip_gap s k hlt (Or.inl C1.out)]; exact HT.out⟩
        case measure => simp [intOf]; omega
      have b1 : ((s[k].toNat : Int) == 32) = false := by rw [beq_eq_false_iff_ne]; omega
      by_cases c2 : s[k].toNat = 10
      · have b2 : ((s[k].toNat : Int) == 10) = true := by rw [beq_iff_eq]; omega
        have C2 : Hid (s[k].toNat = 10) := c2
        clear c1 c2
        go_wp2
        go_round
        case rel => exact ⟨k + 1, by omega, by go_num, by rw [skip_gap s k hlt (Or.inr C2.out)]; exact HT.out⟩
        case measure => simp [intOf]; omega
      have b2 : ((s[k].toNat : Int) == 10) = false := by rw [beq_eq_false_iff_ne]; omega
      by_cases c3 : s[k].toNat = 59
      · have b3 : ((s[k].toNat : Int) == 59) = true := by rw [beq_iff_eq]; omega
        have C3 : Hid (s[k].toNat = 59) := c3
        have C2 : Hid (¬ s[k].toNat = 10) := c2
        clear c1 c2 c3
        have HC : Hid (commentTo s.data.toList k = skipTo s.data.toList i) := by show _ = _; rw [skip_cm s k hlt C3.out]; exact HT.out
        go_wp2
        go_loop [1] (fun v => ∃ j : Nat, k ≤ j ∧ j ≤ s.size ∧ v = .int .i64 j ∧ commentTo s.data.toList j = skipTo s.data.toList i) (fun v => s.size - (intOf v).toNat)
        case atStart => exact ⟨k, Nat.le_refl _, by omega, rfl, HC.out⟩
        case round =>
          obtain ⟨j, hkj, hj, rfl, hT⟩ := hrel
          have HJ : Hid (commentTo s.data.toList j = skipTo s.data.toList i) := hT
          clear hT b1 b2 b3
          by_cases hjl : j < s.size
          · by_cases c4 : s[j].toNat = 10
            · have b4 : ((s[j].toNat : Int) != 10) = false := by simp; omega
              have C4 : Hid (s[j].toNat = 10) := c4
              clear c4
              have hne : k < j := by
                rcases Nat.lt_or_eq_of_le hkj with h | h
                · exact h
                · subst h; exact absurd C4.out C2.out
              go_wp2
              go_round
              case rel => exact ⟨j, by omega, rfl, by rw [cm_nl s j hjl C4.out]; exact HJ.out⟩
              case measure => simp [intOf]; omega
            · have b4 : ((s[j].toNat : Int) != 10) = true := by simp; omega
              have C4 : Hid (¬ s[j].toNat = 10) := c4
              clear c4
              go_wp2
              go_round
              case rel => exact ⟨j + 1, by omega, by omega, by go_num, by rw [cm_go s j hjl C4.out]; exact HJ.out⟩
              case measure => simp [intOf]; omega
          · go_wp2
            go_round
            case rel => exact ⟨j, by omega, rfl, by rw [cm_end s j (by omega)]; exact HJ.out⟩
            case measure => simp [intOf]; omega
      · have b3 : ((s[k].toNat : Int) == 59) = false := by rw [beq_eq_false_iff_ne]; omega
        have CC : Hid (skipTo s.data.toList k = k) := skip_no s k hlt c1 c2 c3
        clear c1 c2 c3
        go_wp2
        go_ret
        exact ⟨ret_int (by rw [← HT.out, CC.out]), rfl⟩
    · go_wp2
      go_ret
      exact ⟨ret_int (by rw [← HT.out, skip_end s k (by omega)]), rfl⟩
end Go.Proofs.YtlobegpjenabaaaGreatDoor
