/- expr: isKeyword, variable. -/
import Derived.Test.YtlobegpjenabaaaGreatDoorImpItems
namespace Go.Proofs.YtlobegpjenabaaaGreatDoor
open Go.RowKit
set_option linter.unusedSimpArgs false
set_option linter.unusedVariables false

set_option maxHeartbeats 1000000 in
theorem isKeyword_any (s : ByteArray) (w : World) :
    Calls Tryz.prog 143 #[.string s] w fun e w' => e = .returned (.bool (kwB s.data.toList)) ∧ w' = w := by
  have HK := hide (kwB_of s)
  go_enter Tryz.func143, Tryz.ntmps143
  go_wp2
  all_goals
    go_ret
    refine ⟨ret_bool ?_, rfl⟩
    rw [HK.out]
    clear HK
    simp_all

theorem as_sym (s : ByteArray) (w : World) : (Instr.typeAssert (.iface 134 (.string s)) 81 134 true).run Tryz.prog w = .ok (.tuple #[.string s, .bool true]) w := by kernel_rfl
theorem as_sym_Int (v : Value) (w : World) : (Instr.typeAssert (.iface 130 v) 81 134 true).run Tryz.prog w = .ok (.tuple #[.string ⟨#[]⟩, .bool false]) w := by kernel_rfl
set_option maxHeartbeats 1000000 in
theorem ivariable_Int (x : Value) (w : World) :
    Calls Tryz.prog 88 #[.iface 130 x] w fun e w' => e = .returned (.tuple #[.string ⟨#[]⟩, .bool false]) ∧ w' = w := by
  have hta := as_sym_Int
  go_enter Tryz.func88, Tryz.ntmps88
  go_wp2
  go_ret2
  exact ⟨rfl, rfl⟩
theorem as_sym_Bool (v : Value) (w : World) : (Instr.typeAssert (.iface 131 v) 81 134 true).run Tryz.prog w = .ok (.tuple #[.string ⟨#[]⟩, .bool false]) w := by kernel_rfl
set_option maxHeartbeats 1000000 in
theorem ivariable_Bool (x : Value) (w : World) :
    Calls Tryz.prog 88 #[.iface 131 x] w fun e w' => e = .returned (.tuple #[.string ⟨#[]⟩, .bool false]) ∧ w' = w := by
  have hta := as_sym_Bool
  go_enter Tryz.func88, Tryz.ntmps88
  go_wp2
  go_ret2
  exact ⟨rfl, rfl⟩
theorem as_sym_Empty (v : Value) (w : World) : (Instr.typeAssert (.iface 207 v) 81 134 true).run Tryz.prog w = .ok (.tuple #[.string ⟨#[]⟩, .bool false]) w := by kernel_rfl
set_option maxHeartbeats 1000000 in
theorem ivariable_Empty (x : Value) (w : World) :
    Calls Tryz.prog 88 #[.iface 207 x] w fun e w' => e = .returned (.tuple #[.string ⟨#[]⟩, .bool false]) ∧ w' = w := by
  have hta := as_sym_Empty
  go_enter Tryz.func88, Tryz.ntmps88
  go_wp2
  go_ret2
  exact ⟨rfl, rfl⟩
theorem as_sym_Pair (v : Value) (w : World) : (Instr.typeAssert (.iface 136 v) 81 134 true).run Tryz.prog w = .ok (.tuple #[.string ⟨#[]⟩, .bool false]) w := by kernel_rfl
set_option maxHeartbeats 1000000 in
theorem ivariable_Pair (x : Value) (w : World) :
    Calls Tryz.prog 88 #[.iface 136 x] w fun e w' => e = .returned (.tuple #[.string ⟨#[]⟩, .bool false]) ∧ w' = w := by
  have hta := as_sym_Pair
  go_enter Tryz.func88, Tryz.ntmps88
  go_wp2
  go_ret2
  exact ⟨rfl, rfl⟩

set_option maxHeartbeats 1000000 in
theorem ivariable_sym (s : ByteArray) (w : World) :
    Calls Tryz.prog 88 #[.iface 134 (.string s)] w fun e w' => (∃ t, e = .returned (.tuple #[.string t, .bool (!(kwB s.data.toList))]) ∧ (kwB s.data.toList = false → t = s)) ∧ w' = w := by
  have hta := as_sym
  cases hk : kwB s.data.toList with
  | true =>
    go_enter Tryz.func88, Tryz.ntmps88
    go_wp2_with (go_at_call 143; refine (isKeyword_any _ _).mono ?_; rintro e w' ⟨rfl, rfl⟩; rw [hk])
    go_ret2
    exact ⟨⟨_, rfl, fun h => by cases h⟩, rfl⟩
  | false =>
    go_enter Tryz.func88, Tryz.ntmps88
    go_wp2_with (go_at_call 143; refine (isKeyword_any _ _).mono ?_; rintro e w' ⟨rfl, rfl⟩; rw [hk])
    go_ret2
    exact ⟨⟨_, rfl, fun _ => rfl⟩, rfl⟩

/-- variable, of whatever is read. -/
theorem ivariable_any (n : Nat) (d : D) (x : Value) (w : World) (hv : IV w n x d) :
    Calls Tryz.prog 88 #[x] w fun e w' => (∃ t, e = .returned (.tuple #[.string t, .bool (varD d)]) ∧ (varD d = true → t.data.toList = nameD d)) ∧ w' = w := by
  cases n with
  | zero => exact hv.elim
  | succ n =>
    match d, hv with
    | .agg [], hv => have h : x = _ := hv.2; subst h; exact (ivariable_Empty _ w).mono fun e w' ⟨he, hb⟩ => ⟨⟨_, he, fun h => by cases h⟩, hb⟩
    | .agg (_ :: _), hv => obtain ⟨b, v1, v2, rfl, _⟩ := hv.2; exact (ivariable_Pair _ w).mono fun e w' ⟨he, hb⟩ => ⟨⟨_, he, fun h => by cases h⟩, hb⟩
    | .lit (.int k m), hv =>
      cases k <;> first | (cases hv; done) | (have h : some _ = some x := hv; cases h; exact (ivariable_Int _ w).mono fun e w' ⟨he, hb⟩ => ⟨⟨_, he, fun h => by cases h⟩, hb⟩)
    | .lit (.bool b), hv => have h : some _ = some x := hv; cases h; exact (ivariable_Bool _ w).mono fun e w' ⟨he, hb⟩ => ⟨⟨_, he, fun h => by cases h⟩, hb⟩
    | .lit (.string b), hv =>
      have h : some _ = some x := hv; cases h
      refine (ivariable_sym _ w).mono fun e w' ⟨⟨t, he, ht⟩, hb⟩ => ⟨⟨t, he, fun h => ?_⟩, hb⟩
      rw [ht (by simpa [varD] using h)]; rfl
    | .lit (.float _ _), hv => cases hv
    | .lit .nil, hv => cases hv
    | .nil, hv => cases hv
    | .ptr _, hv => cases hv
    | .slice _ _, hv => cases hv
    | .iface _ _, hv => cases hv
    | .map _, hv => cases hv
    | .held _, hv => cases hv
end Go.Proofs.YtlobegpjenabaaaGreatDoor
