/- The smallest functions: what a byte is; what is skipped. -/
import Derived.Test.YtlobegpjenabaaaGreatDoorProg
import Derived.Test.YtlobegpjenabaaaGreatDoorSpec
import Derived.WalkKit
import Derived.WalkSpells
import Derived.WalkLawsBesides
import Derived.Deep.QuietTactic
import Derived.BigQuiet
namespace Go.Proofs.YtlobegpjenabaaaGreatDoor
open Go.RowKit

theorem ret_int {k : IntKind} {a b : Int} (h : a = b) : Ending.returned (.int k a) = .returned (.int k b) := by rw [h]
theorem ret_bool {a b : Bool} (h : a = b) : Ending.returned (.bool a) = .returned (.bool b) := by rw [h]

set_option maxHeartbeats 400000 in
theorem isDigit_any (b : Int) (w : World) :
    Calls Tryz.prog 199 #[.int .u8 b] w fun e w' => e = .returned (.bool (digB b)) ∧ w' = w := by
  by_cases h1 : 48 ≤ b <;> by_cases h2 : b ≤ 57 <;>
  · go_enter Tryz.func199, Tryz.ntmps199
    go_wp2
    go_ret
    exact ⟨by simp [digB, h1, h2], rfl⟩

/-- No sign ahead of number k is b. -/
def noSign (b : Int) (k : Nat) : Bool := (signs.take k).all fun x => !(x == b)

theorem sortI_no (b : Int) (h1 : digB b = false) (h2 : lowB b = false) (h3 : (b == 35) = false) (h : noSign b 9 = true) : sortI b = 0 := by
  simp [noSign, signs] at h
  simp [sortI, h1, h2, h3, signs]
  omega
theorem sortI_yes (b : Int) (h1 : digB b = false) (h2 : lowB b = false) (h3 : (b == 35) = false) (this : b ∈ signs) : sortI b = 2 := by
  simp [sortI, h1, h2, h3, this]
theorem noSign_step (b : Int) (k : Nat) (x : Int) (hx : signs[k]? = some x) (h : noSign b k = true) (hne : (x == b) = false) : noSign b (k + 1) = true := by
  unfold noSign at *
  rw [List.take_add_one, List.all_append, h, hx]
  simp [hne]

set_option maxHeartbeats 2000000 in
theorem sort_any (b : Int) (w : World) :
    Calls Tryz.prog 107 #[.int .u8 b] w fun e w' => e = .returned (.int .i64 (sortI b)) ∧ w' = w := by
  by_cases h1 : 48 ≤ b ∧ b ≤ 57
  · obtain ⟨h1, h2⟩ := h1
    go_enter Tryz.func107, Tryz.ntmps107
    go_wp2
    go_ret
    exact ⟨by simp [sortI, digB, h1, h2], rfl⟩
  have d1 : digB b = false := by simp [digB]; omega
  by_cases h2 : 97 ≤ b ∧ b ≤ 122
  · obtain ⟨h3, h4⟩ := h2
    have h5 : ¬ b ≤ 57 := by omega
    go_enter Tryz.func107, Tryz.ntmps107
    go_wp2
    go_ret
    exact ⟨by simp [sortI, d1, lowB, h3, h4], rfl⟩
  have d2 : lowB b = false := by simp [lowB]; omega
  by_cases h5 : b = 35
  · subst h5
    go_enter Tryz.func107, Tryz.ntmps107
    go_wp2
    go_ret
    exact ⟨by simp [sortI, digB, lowB], rfl⟩
  have d3 : (b == 35) = false := by simpa using h5
  clear h5
  have HN := sortI_no b d1 d2 d3
  have HY := sortI_yes b d1 d2 d3
  have K1 : Hid (noSign b 9 = true → sortI b = 0) := HN
  have K2 : Hid (b ∈ signs → sortI b = 2) := HY
  clear HN HY d1 d2
  by_cases g1 : 48 ≤ b <;> by_cases g2 : 97 ≤ b
  all_goals try (have g3 : ¬ b ≤ 57 := by omega)
  all_goals try (have g4 : ¬ b ≤ 122 := by omega)
  all_goals try omega
  all_goals
    go_enter Tryz.func107, Tryz.ntmps107
    go_wp2
    go_loop [4] (fun i => ∃ k : Nat, k ≤ 9 ∧ i = .int .i64 k ∧ noSign b k = true) (fun i => 9 - (intOf i).toNat)
    case atStart => exact ⟨0, Nat.zero_le _, rfl, rfl⟩
    case round =>
      obtain ⟨k, hk, rfl, hn⟩ := hrel
      have H : Hid (noSign b k = true) := hn
      clear hn
      have hk : k = 0 ∨ k = 1 ∨ k = 2 ∨ k = 3 ∨ k = 4 ∨ k = 5 ∨ k = 6 ∨ k = 7 ∨ k = 8 ∨ k = 9 := by omega
      rcases hk with rfl | rfl | rfl | rfl | rfl | rfl | rfl | rfl | rfl | rfl
      all_goals go_wp2
      all_goals first
        | (go_round
           case rel => exact ⟨_ + 1, by decide, rfl, noSign_step b _ _ (by rfl) H.out (by assumption)⟩
           case measure => simp [intOf])
        | (go_ret
           exact ⟨ret_int (K1.out H.out).symm, rfl⟩)
        | (have hy := beq_iff_eq.1 (by assumption)
           go_ret
           exact ⟨ret_int (K2.out (by rw [← hy]; decide)).symm, rfl⟩)
end Go.Proofs.YtlobegpjenabaaaGreatDoor
