/- lathekeep: pick. -/
import Derived.Test.YtlobegpjenabaaaGreatDoorK36
namespace Go.Proofs.YtlobegpjenabaaaGreatDoor
open Go.RowKit
set_option linter.unusedSimpArgs false
set_option linter.unusedVariables false

/-- Which of n things a raw number speaks of. -/
def pickS (c n : Int) : Int := (if c < 0 then -(c + 1) else c).tmod n
theorem pickS_in (c n : Int) (h : 0 < n) : 0 ≤ pickS c n ∧ pickS c n < n := by
  unfold pickS
  split
  · exact ⟨Int.tmod_nonneg _ (by omega), Int.tmod_lt_of_pos _ h⟩
  · exact ⟨Int.tmod_nonneg _ (by omega), Int.tmod_lt_of_pos _ h⟩
set_option maxRecDepth 100000 in
set_option maxHeartbeats 1000000 in
theorem pick_20 (w : World) (c : Int) (h : -9223372036854775808 ≤ c ∧ c ≤ 9223372036854775807) : Calls Tryz.prog 25 #[.int .i64 c, .int .i64 20] w (RetW (.int .i64 (pickS c 20)) w) := by
  by_cases hc : c < 0
  · have HP : Hid (pickS c 20 = -((c + 1).tmod 20)) := by show _ = _; unfold pickS; rw [if_pos hc, Int.neg_tmod]
    go_enter Tryz.func25, Tryz.ntmps25
    go_wp2
    go_ret
    exact ⟨by rw [HP.out]; rfl, rfl⟩
  · have HP : Hid (pickS c 20 = c % 20) := by show _ = _; unfold pickS; rw [if_neg hc, Int.tmod_eq_emod_of_nonneg (by omega)]
    go_enter Tryz.func25, Tryz.ntmps25
    go_wp2
    go_ret
    exact ⟨by rw [HP.out]; rfl, rfl⟩
set_option maxRecDepth 100000 in
set_option maxHeartbeats 1000000 in
theorem pick_600 (w : World) (c : Int) (h : -9223372036854775808 ≤ c ∧ c ≤ 9223372036854775807) : Calls Tryz.prog 25 #[.int .i64 c, .int .i64 600] w (RetW (.int .i64 (pickS c 600)) w) := by
  by_cases hc : c < 0
  · have HP : Hid (pickS c 600 = -((c + 1).tmod 600)) := by show _ = _; unfold pickS; rw [if_pos hc, Int.neg_tmod]
    go_enter Tryz.func25, Tryz.ntmps25
    go_wp2
    go_ret
    exact ⟨by rw [HP.out]; rfl, rfl⟩
  · have HP : Hid (pickS c 600 = c % 600) := by show _ = _; unfold pickS; rw [if_neg hc, Int.tmod_eq_emod_of_nonneg (by omega)]
    go_enter Tryz.func25, Tryz.ntmps25
    go_wp2
    go_ret
    exact ⟨by rw [HP.out]; rfl, rfl⟩
set_option maxRecDepth 100000 in
set_option maxHeartbeats 1000000 in
theorem pick_50 (w : World) (c : Int) (h : -9223372036854775808 ≤ c ∧ c ≤ 9223372036854775807) : Calls Tryz.prog 25 #[.int .i64 c, .int .i64 50] w (RetW (.int .i64 (pickS c 50)) w) := by
  by_cases hc : c < 0
  · have HP : Hid (pickS c 50 = -((c + 1).tmod 50)) := by show _ = _; unfold pickS; rw [if_pos hc, Int.neg_tmod]
    go_enter Tryz.func25, Tryz.ntmps25
    go_wp2
    go_ret
    exact ⟨by rw [HP.out]; rfl, rfl⟩
  · have HP : Hid (pickS c 50 = c % 50) := by show _ = _; unfold pickS; rw [if_neg hc, Int.tmod_eq_emod_of_nonneg (by omega)]
    go_enter Tryz.func25, Tryz.ntmps25
    go_wp2
    go_ret
    exact ⟨by rw [HP.out]; rfl, rfl⟩
set_option maxRecDepth 100000 in
set_option maxHeartbeats 1000000 in
theorem pick_400 (w : World) (c : Int) (h : -9223372036854775808 ≤ c ∧ c ≤ 9223372036854775807) : Calls Tryz.prog 25 #[.int .i64 c, .int .i64 400] w (RetW (.int .i64 (pickS c 400)) w) := by
  by_cases hc : c < 0
  · have HP : Hid (pickS c 400 = -((c + 1).tmod 400)) := by show _ = _; unfold pickS; rw [if_pos hc, Int.neg_tmod]
    go_enter Tryz.func25, Tryz.ntmps25
    go_wp2
    go_ret
    exact ⟨by rw [HP.out]; rfl, rfl⟩
  · have HP : Hid (pickS c 400 = c % 400) := by show _ = _; unfold pickS; rw [if_neg hc, Int.tmod_eq_emod_of_nonneg (by omega)]
    go_enter Tryz.func25, Tryz.ntmps25
    go_wp2
    go_ret
    exact ⟨by rw [HP.out]; rfl, rfl⟩
set_option maxRecDepth 100000 in
set_option maxHeartbeats 1000000 in
theorem pick_100 (w : World) (c : Int) (h : -9223372036854775808 ≤ c ∧ c ≤ 9223372036854775807) : Calls Tryz.prog 25 #[.int .i64 c, .int .i64 100] w (RetW (.int .i64 (pickS c 100)) w) := by
  by_cases hc : c < 0
  · have HP : Hid (pickS c 100 = -((c + 1).tmod 100)) := by show _ = _; unfold pickS; rw [if_pos hc, Int.neg_tmod]
    go_enter Tryz.func25, Tryz.ntmps25
    go_wp2
    go_ret
    exact ⟨by rw [HP.out]; rfl, rfl⟩
  · have HP : Hid (pickS c 100 = c % 100) := by show _ = _; unfold pickS; rw [if_neg hc, Int.tmod_eq_emod_of_nonneg (by omega)]
    go_enter Tryz.func25, Tryz.ntmps25
    go_wp2
    go_ret
    exact ⟨by rw [HP.out]; rfl, rfl⟩
set_option maxRecDepth 100000 in
set_option maxHeartbeats 1000000 in
theorem pick_7 (w : World) (c : Int) (h : -9223372036854775808 ≤ c ∧ c ≤ 9223372036854775807) : Calls Tryz.prog 25 #[.int .i64 c, .int .i64 7] w (RetW (.int .i64 (pickS c 7)) w) := by
  by_cases hc : c < 0
  · have HP : Hid (pickS c 7 = -((c + 1).tmod 7)) := by show _ = _; unfold pickS; rw [if_pos hc, Int.neg_tmod]
    go_enter Tryz.func25, Tryz.ntmps25
    go_wp2
    go_ret
    exact ⟨by rw [HP.out]; rfl, rfl⟩
  · have HP : Hid (pickS c 7 = c % 7) := by show _ = _; unfold pickS; rw [if_neg hc, Int.tmod_eq_emod_of_nonneg (by omega)]
    go_enter Tryz.func25, Tryz.ntmps25
    go_wp2
    go_ret
    exact ⟨by rw [HP.out]; rfl, rfl⟩
end Go.Proofs.YtlobegpjenabaaaGreatDoor
