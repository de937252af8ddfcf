/- latheref: keyword, variable, head. -/
import Derived.Test.YtlobegpjenabaaaGreatDoorRefRead
namespace Go.Proofs.YtlobegpjenabaaaGreatDoor
open Go.RowKit
set_option linter.unusedSimpArgs false
set_option linter.unusedVariables false

theorem kwB_of (s : ByteArray) : kwB s.data.toList = (s.toList == [113, 117, 111, 116, 101] || (s.toList == [105, 102] || (s.toList == [100, 101, 102, 105, 110, 101] || (s.toList == [115, 101, 116, 33] || (s.toList == [108, 97, 109, 98, 100, 97] || (s.toList == [98, 101, 103, 105, 110] || s.toList == [108, 101, 116])))))) := by
  rw [ByteArray.toList_eq]
  simp only [kwB, kws, List.contains_cons, List.contains_nil, Bool.or_false]

set_option maxHeartbeats 1000000 in
theorem keyword_any (s : ByteArray) (w : World) :
    Calls Tryz.prog 109 #[.string s] w fun e w' => e = .returned (.bool (kwB s.data.toList)) ∧ w' = w := by
  have HK := hide (kwB_of s)
  go_enter Tryz.func109, Tryz.ntmps109
  go_wp2
  all_goals
    go_ret
    refine ⟨ret_bool ?_, rfl⟩
    rw [HK.out]
    clear HK
    first | (rename_i h; rw [h]; rfl) | simp only [Bool.or_assoc]

/-- The cells of a value, as it is handed over. -/
theorem var_atom (d : D) (k m : Int) (s : ByteArray) (p : Option Addr) (w : World) (n : Nat) (h : RV w n (rcells k m s p) d) : varD d = ((k == 3) && !(kwB s.data.toList)) ∧ (varD d = true → nameD d = s.data.toList) := by
  cases n with
  | zero => exact h.elim
  | succ n =>
    match d, h with
    | .agg [], h => have h : rcells k m s p = rcells 4 0 emptyB none := h.2; cases h; exact ⟨rfl, fun h => by cases h⟩
    | .agg (_ :: _), h => obtain ⟨b, c1, c2, h, _⟩ := h.2; cases h; exact ⟨rfl, fun h => by cases h⟩
    | .lit (.int q x), h => cases q <;> first | (cases h; done) | (have h : some _ = some (rcells k m s p) := h; cases h; exact ⟨rfl, fun h => by cases h⟩)
    | .lit (.bool b), h => have h : some _ = some (rcells k m s p) := h; cases h; exact ⟨rfl, fun h => by cases h⟩
    | .lit (.string t), h => have h : some _ = some (rcells k m s p) := h; cases h; exact ⟨rfl, fun _ => rfl⟩
    | .nil, h => have h : some _ = some (rcells k m s p) := h; cases h; exact ⟨rfl, fun h => by cases h⟩

set_option maxHeartbeats 1000000 in
theorem variable_any (k m : Int) (s : ByteArray) (p : Option Addr) (w : World) :
    Calls Tryz.prog 65 #[.agg (rcells k m s p)] w fun e w' => e = .returned (.bool ((k == 3) && !(kwB s.data.toList))) ∧ Below w.heap.size w w' := by
  unfold rcells
  by_cases hk : (k == 3) = true
  · go_enter Tryz.func65, Tryz.ntmps65
    go_wp2_with (go_at_call 109; refine (keyword_any _ _).mono ?_; rintro e w' ⟨rfl, rfl⟩)
    go_ret
    exact ⟨by rw [hk]; rfl, (Below.refl _ _).alloc (Nat.le_refl _) _⟩
  · have hk : (k == 3) = false := by simpa using hk
    go_enter Tryz.func65, Tryz.ntmps65
    go_wp2_with (go_at_call 109; refine (keyword_any _ _).mono ?_; rintro e w' ⟨rfl, rfl⟩)
    go_ret
    exact ⟨by rw [hk]; rfl, (Below.refl _ _).alloc (Nat.le_refl _) _⟩
theorem variable_rv (n : Nat) (d : D) (cs : Array Value) (w : World) (h : RV w n cs d) :
    Calls Tryz.prog 65 #[.agg cs] w fun e w' => e = .returned (.bool (varD d)) ∧ Below w.heap.size w w' := by
  obtain ⟨k, m, s, p, rfl⟩ := RV.form _ _ _ h
  rw [(var_atom d k m s p w n h).1]
  exact variable_any k m s p w

/-- A row of values that is read alone: it may begin anywhere in a block. -/
def RowRd (w : World) (v : Value) (css : List (Array Value)) : Prop :=
  ∃ a cap, v = .slice a css.length cap ∧ css.length ≤ cap ∧ cap ≤ maxLen ∧ (0 < css.length → ∃ g off, a = some ⟨g, off, none⟩ ∧ g < w.heap.size ∧ ∀ (j : Nat) u, (flat css)[j]? = some u → w.cell? ⟨g, off + j, none⟩ = some u)
theorem Row5.rd {B : Nat} {w : World} {v : Value} {css : List (Array Value)} (h : Row5 B w v css) : RowRd w v css := by
  obtain ⟨a, cap, hv, h1, h2, h3⟩ := ownsRow_slice h
  refine ⟨a, cap, hv, h1, h2, fun hp => ?_⟩
  obtain ⟨g, ha, _, hg, hc⟩ := h3 hp
  exact ⟨g, 0, ha, hg, fun j u hj => by rw [Nat.zero_add]; exact hc j u hj⟩
theorem RowRd.below {w w' : World} {v : Value} {css : List (Array Value)} (h : RowRd w v css) (hb : Below w.heap.size w w') : RowRd w' v css := by
  obtain ⟨a, cap, hv, h1, h2, h3⟩ := h
  refine ⟨a, cap, hv, h1, h2, fun hp => ?_⟩
  obtain ⟨g, off, ha, hg, hc⟩ := h3 hp
  exact ⟨g, off, ha, Nat.lt_of_lt_of_le hg hb.size, fun j u hj => by rw [hb.cell (p := ⟨g, off + j, none⟩) hg]; exact hc j u hj⟩
theorem RVs.below {w w' : World} {n : Nat} {css : List (Array Value)} {ds : List D} (h : RVs w n css ds) (hb : Below w.heap.size w w') : RVs w' n css ds := RVs.keep (Keep.of_below hb) _ _ _ h

theorem head_atom (d : D) (ds : List D) (k m : Int) (s : ByteArray) (p : Option Addr) (w : World) (n : Nat) (h : RV w n (rcells k m s p) d) :
    ((k == 3) = false → headK (d :: ds) = []) ∧ ((k == 3) = true → headK (d :: ds) = if kwB s.data.toList then s.data.toList else []) := by
  cases n with
  | zero => exact h.elim
  | succ n =>
    match d, h with
    | .agg [], h => have h : rcells k m s p = rcells 4 0 emptyB none := h.2; cases h; exact ⟨fun _ => rfl, fun h => by cases h⟩
    | .agg (_ :: _), h => obtain ⟨b, c1, c2, h, _⟩ := h.2; cases h; exact ⟨fun _ => rfl, fun h => by cases h⟩
    | .lit (.int q x), h => cases q <;> first | (cases h; done) | (have h : some _ = some (rcells k m s p) := h; cases h; exact ⟨fun _ => rfl, fun h => by cases h⟩)
    | .lit (.bool b), h => have h : some _ = some (rcells k m s p) := h; cases h; exact ⟨fun _ => rfl, fun h => by cases h⟩
    | .lit (.string t), h => have h : some _ = some (rcells k m s p) := h; cases h; exact ⟨(fun h => by cases h), fun _ => rfl⟩
    | .nil, h => have h : some _ = some (rcells k m s p) := h; cases h; exact ⟨fun _ => rfl, fun h => by cases h⟩

set_option maxHeartbeats 1000000 in
theorem head_any (n : Nat) (css : List (Array Value)) (ds : List D) (v : Value) (w : World) (hrow : RowRd w v css) (hds : RVs w n css ds) :
    Calls Tryz.prog 67 #[v] w fun e w' => e = .returned (.string ⟨(headK ds).toArray⟩) ∧ w' = w := by
  obtain ⟨a, cap, rfl, h1, h2, h3⟩ := hrow
  match css, ds, hds with
  | [], [], _ =>
    go_enter Tryz.func67, Tryz.ntmps67
    go_wp2
    go_ret
    exact ⟨rfl, rfl⟩
  | c :: cs, d :: ds, hds =>
    obtain ⟨g, off, rfl, hg, hc⟩ := h3 (by simp)
    obtain ⟨h5, hrv, _⟩ := hds
    obtain ⟨k, m, s, p, rfl⟩ := RV.form _ _ _ hrv
    have hva := var_atom d k m s p w n hrv
    have c0 : w.cell? ⟨g, off, none⟩ = some (.int .i64 k) := hc 0 (.int .i64 k) rfl
    have c2 := hc 2 (.string s) rfl
    have HK := hide (head_atom d ds k m s p w n hrv)
    have hlp : 0 < (rcells k m s p :: cs).length := by simp
    generalize (rcells k m s p :: cs).length = ln at *
    have hlp' : (0 : Int) < (ln : Int) := by omega
    clear hc h3 hva hrv h5
    by_cases hk : (k == 3) = true
    · cases hkw : kwB s.data.toList with
      | true =>
        have HKW := hide hkw
        go_enter Tryz.func67, Tryz.ntmps67
        go_wp2_with (go_at_call 109; refine (keyword_any _ _).mono ?_; rintro e w' ⟨rfl, rfl⟩)
        go_ret
        refine ⟨?_, rfl⟩
        rw [HK.out.2 hk, HKW.out]; rfl
      | false =>
        have HKW := hide hkw
        go_enter Tryz.func67, Tryz.ntmps67
        go_wp2_with (go_at_call 109; refine (keyword_any _ _).mono ?_; rintro e w' ⟨rfl, rfl⟩)
        go_ret
        refine ⟨?_, rfl⟩
        rw [HK.out.2 hk, HKW.out]; rfl
    · have hk : (k == 3) = false := by simpa using hk
      go_enter Tryz.func67, Tryz.ntmps67
      go_wp2
      go_ret
      refine ⟨?_, rfl⟩
      rw [HK.out.1 hk]; rfl
end Go.Proofs.YtlobegpjenabaaaGreatDoor
