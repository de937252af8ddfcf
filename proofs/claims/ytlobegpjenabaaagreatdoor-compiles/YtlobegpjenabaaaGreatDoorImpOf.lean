/- expr: ofList, Of. -/
import Derived.Test.YtlobegpjenabaaaGreatDoorImpLet
namespace Go.Proofs.YtlobegpjenabaaaGreatDoor
open Go.RowKit
set_option linter.unusedSimpArgs false
set_option linter.unusedVariables false

set_option maxRecDepth 100000 in
set_option maxHeartbeats 2000000 in
theorem ofList_quote (vs : List Value) (v : Value) (w : World) (m : Nat) (r : Bool) (hrow : RowQ w v (.iface 134 (.string ⟨#[113, 117, 111, 116, 101]⟩) :: vs)) (hlen : vs.length ≤ 1000) (hf : ∀ tl, RowQ w tl vs → Calls Tryz.prog 89 #[tl] w (OfPost w m r)) :
    Calls Tryz.prog 57 #[v] w (OfPost w m r) := by
  have HF := hide hf
  have HQ := hide hrow
  obtain ⟨a, cap, rfl, hc1, hc2, hat⟩ := hrow
  obtain ⟨g, off, rfl, hg, hat⟩ := hat (by simp)
  have c0 := hat 0 _ rfl
  rw [Nat.add_zero] at c0
  have hta := as_sym
  unfold maxLen at hc2
  simp only [List.length_cons] at *
  clear hat hf
  go_enter Tryz.func57, Tryz.ntmps57
  by_cases hcap : cap = 1
  · have hz2 : vs.length = 0 := by omega
    have HZ := hide (List.length_eq_zero_iff.1 hz2)
    rw [hz2]
    subst hcap
    clear hc1 hlen
    go_wp2_with fail
    refine (HF.out _ (by rw [HZ.out]; exact RowQ.none _ _)).mono ?_
    intro e w3 h3
    have HPost := hide h3
    obtain ⟨⟨u3, rfl, _⟩, _⟩ := h3
    go_wp2
    go_ret2
    exact HPost.out
  · go_wp2_with fail
    refine (HF.out _ (RowQ.tail HQ.out rfl)).mono ?_
    intro e w3 h3
    have HPost := hide h3
    obtain ⟨⟨u3, rfl, _⟩, _⟩ := h3
    go_wp2
    go_ret2
    exact HPost.out
set_option maxRecDepth 100000 in
set_option maxHeartbeats 2000000 in
theorem ofList_choice (vs : List Value) (v : Value) (w : World) (m : Nat) (r : Bool) (hrow : RowQ w v (.iface 134 (.string ⟨#[105, 102]⟩) :: vs)) (hlen : vs.length ≤ 1000) (hf : ∀ tl, RowQ w tl vs → Calls Tryz.prog 90 #[tl] w (OfPost w m r)) :
    Calls Tryz.prog 57 #[v] w (OfPost w m r) := by
  have HF := hide hf
  have HQ := hide hrow
  obtain ⟨a, cap, rfl, hc1, hc2, hat⟩ := hrow
  obtain ⟨g, off, rfl, hg, hat⟩ := hat (by simp)
  have c0 := hat 0 _ rfl
  rw [Nat.add_zero] at c0
  have hta := as_sym
  unfold maxLen at hc2
  simp only [List.length_cons] at *
  clear hat hf
  go_enter Tryz.func57, Tryz.ntmps57
  by_cases hcap : cap = 1
  · have hz2 : vs.length = 0 := by omega
    have HZ := hide (List.length_eq_zero_iff.1 hz2)
    rw [hz2]
    subst hcap
    clear hc1 hlen
    go_wp2_with fail
    refine (HF.out _ (by rw [HZ.out]; exact RowQ.none _ _)).mono ?_
    intro e w3 h3
    have HPost := hide h3
    obtain ⟨⟨u3, rfl, _⟩, _⟩ := h3
    go_wp2
    go_ret2
    exact HPost.out
  · go_wp2_with fail
    refine (HF.out _ (RowQ.tail HQ.out rfl)).mono ?_
    intro e w3 h3
    have HPost := hide h3
    obtain ⟨⟨u3, rfl, _⟩, _⟩ := h3
    go_wp2
    go_ret2
    exact HPost.out
set_option maxRecDepth 100000 in
set_option maxHeartbeats 2000000 in
theorem ofList_define (vs : List Value) (v : Value) (w : World) (m : Nat) (r : Bool) (hrow : RowQ w v (.iface 134 (.string ⟨#[100, 101, 102, 105, 110, 101]⟩) :: vs)) (hlen : vs.length ≤ 1000) (hf : ∀ tl, RowQ w tl vs → Calls Tryz.prog 91 #[tl] w (OfPost w m r)) :
    Calls Tryz.prog 57 #[v] w (OfPost w m r) := by
  have HF := hide hf
  have HQ := hide hrow
  obtain ⟨a, cap, rfl, hc1, hc2, hat⟩ := hrow
  obtain ⟨g, off, rfl, hg, hat⟩ := hat (by simp)
  have c0 := hat 0 _ rfl
  rw [Nat.add_zero] at c0
  have hta := as_sym
  unfold maxLen at hc2
  simp only [List.length_cons] at *
  clear hat hf
  go_enter Tryz.func57, Tryz.ntmps57
  by_cases hcap : cap = 1
  · have hz2 : vs.length = 0 := by omega
    have HZ := hide (List.length_eq_zero_iff.1 hz2)
    rw [hz2]
    subst hcap
    clear hc1 hlen
    go_wp2_with fail
    refine (HF.out _ (by rw [HZ.out]; exact RowQ.none _ _)).mono ?_
    intro e w3 h3
    have HPost := hide h3
    obtain ⟨⟨u3, rfl, _⟩, _⟩ := h3
    go_wp2
    go_ret2
    exact HPost.out
  · go_wp2_with fail
    refine (HF.out _ (RowQ.tail HQ.out rfl)).mono ?_
    intro e w3 h3
    have HPost := hide h3
    obtain ⟨⟨u3, rfl, _⟩, _⟩ := h3
    go_wp2
    go_ret2
    exact HPost.out
set_option maxRecDepth 100000 in
set_option maxHeartbeats 2000000 in
theorem ofList_set (vs : List Value) (v : Value) (w : World) (m : Nat) (r : Bool) (hrow : RowQ w v (.iface 134 (.string ⟨#[115, 101, 116, 33]⟩) :: vs)) (hlen : vs.length ≤ 1000) (hf : ∀ tl, RowQ w tl vs → Calls Tryz.prog 92 #[tl] w (OfPost w m r)) :
    Calls Tryz.prog 57 #[v] w (OfPost w m r) := by
  have HF := hide hf
  have HQ := hide hrow
  obtain ⟨a, cap, rfl, hc1, hc2, hat⟩ := hrow
  obtain ⟨g, off, rfl, hg, hat⟩ := hat (by simp)
  have c0 := hat 0 _ rfl
  rw [Nat.add_zero] at c0
  have hta := as_sym
  unfold maxLen at hc2
  simp only [List.length_cons] at *
  clear hat hf
  go_enter Tryz.func57, Tryz.ntmps57
  by_cases hcap : cap = 1
  · have hz2 : vs.length = 0 := by omega
    have HZ := hide (List.length_eq_zero_iff.1 hz2)
    rw [hz2]
    subst hcap
    clear hc1 hlen
    go_wp2_with fail
    refine (HF.out _ (by rw [HZ.out]; exact RowQ.none _ _)).mono ?_
    intro e w3 h3
    have HPost := hide h3
    obtain ⟨⟨u3, rfl, _⟩, _⟩ := h3
    go_wp2
    go_ret2
    exact HPost.out
  · go_wp2_with fail
    refine (HF.out _ (RowQ.tail HQ.out rfl)).mono ?_
    intro e w3 h3
    have HPost := hide h3
    obtain ⟨⟨u3, rfl, _⟩, _⟩ := h3
    go_wp2
    go_ret2
    exact HPost.out
set_option maxRecDepth 100000 in
set_option maxHeartbeats 2000000 in
theorem ofList_lambda (vs : List Value) (v : Value) (w : World) (m : Nat) (r : Bool) (hrow : RowQ w v (.iface 134 (.string ⟨#[108, 97, 109, 98, 100, 97]⟩) :: vs)) (hlen : vs.length ≤ 1000) (hf : ∀ tl, RowQ w tl vs → Calls Tryz.prog 93 #[tl] w (OfPost w m r)) :
    Calls Tryz.prog 57 #[v] w (OfPost w m r) := by
  have HF := hide hf
  have HQ := hide hrow
  obtain ⟨a, cap, rfl, hc1, hc2, hat⟩ := hrow
  obtain ⟨g, off, rfl, hg, hat⟩ := hat (by simp)
  have c0 := hat 0 _ rfl
  rw [Nat.add_zero] at c0
  have hta := as_sym
  unfold maxLen at hc2
  simp only [List.length_cons] at *
  clear hat hf
  go_enter Tryz.func57, Tryz.ntmps57
  by_cases hcap : cap = 1
  · have hz2 : vs.length = 0 := by omega
    have HZ := hide (List.length_eq_zero_iff.1 hz2)
    rw [hz2]
    subst hcap
    clear hc1 hlen
    go_wp2_with fail
    refine (HF.out _ (by rw [HZ.out]; exact RowQ.none _ _)).mono ?_
    intro e w3 h3
    have HPost := hide h3
    obtain ⟨⟨u3, rfl, _⟩, _⟩ := h3
    go_wp2
    go_ret2
    exact HPost.out
  · go_wp2_with fail
    refine (HF.out _ (RowQ.tail HQ.out rfl)).mono ?_
    intro e w3 h3
    have HPost := hide h3
    obtain ⟨⟨u3, rfl, _⟩, _⟩ := h3
    go_wp2
    go_ret2
    exact HPost.out
set_option maxRecDepth 100000 in
set_option maxHeartbeats 2000000 in
theorem ofList_sequence (vs : List Value) (v : Value) (w : World) (m : Nat) (r : Bool) (hrow : RowQ w v (.iface 134 (.string ⟨#[98, 101, 103, 105, 110]⟩) :: vs)) (hlen : vs.length ≤ 1000) (hf : ∀ tl, RowQ w tl vs → Calls Tryz.prog 94 #[tl] w (OfPost w m r)) :
    Calls Tryz.prog 57 #[v] w (OfPost w m r) := by
  have HF := hide hf
  have HQ := hide hrow
  obtain ⟨a, cap, rfl, hc1, hc2, hat⟩ := hrow
  obtain ⟨g, off, rfl, hg, hat⟩ := hat (by simp)
  have c0 := hat 0 _ rfl
  rw [Nat.add_zero] at c0
  have hta := as_sym
  unfold maxLen at hc2
  simp only [List.length_cons] at *
  clear hat hf
  go_enter Tryz.func57, Tryz.ntmps57
  by_cases hcap : cap = 1
  · have hz2 : vs.length = 0 := by omega
    have HZ := hide (List.length_eq_zero_iff.1 hz2)
    rw [hz2]
    subst hcap
    clear hc1 hlen
    go_wp2_with fail
    refine (HF.out _ (by rw [HZ.out]; exact RowQ.none _ _)).mono ?_
    intro e w3 h3
    have HPost := hide h3
    obtain ⟨⟨u3, rfl, _⟩, _⟩ := h3
    go_wp2
    go_ret2
    exact HPost.out
  · go_wp2_with fail
    refine (HF.out _ (RowQ.tail HQ.out rfl)).mono ?_
    intro e w3 h3
    have HPost := hide h3
    obtain ⟨⟨u3, rfl, _⟩, _⟩ := h3
    go_wp2
    go_ret2
    exact HPost.out
set_option maxRecDepth 100000 in
set_option maxHeartbeats 2000000 in
theorem ofList_let (vs : List Value) (v : Value) (w : World) (m : Nat) (r : Bool) (hrow : RowQ w v (.iface 134 (.string ⟨#[108, 101, 116]⟩) :: vs)) (hlen : vs.length ≤ 1000) (hf : ∀ tl, RowQ w tl vs → Calls Tryz.prog 95 #[tl] w (OfPost w m r)) :
    Calls Tryz.prog 57 #[v] w (OfPost w m r) := by
  have HF := hide hf
  have HQ := hide hrow
  obtain ⟨a, cap, rfl, hc1, hc2, hat⟩ := hrow
  obtain ⟨g, off, rfl, hg, hat⟩ := hat (by simp)
  have c0 := hat 0 _ rfl
  rw [Nat.add_zero] at c0
  have hta := as_sym
  unfold maxLen at hc2
  simp only [List.length_cons] at *
  clear hat hf
  go_enter Tryz.func57, Tryz.ntmps57
  by_cases hcap : cap = 1
  · have hz2 : vs.length = 0 := by omega
    have HZ := hide (List.length_eq_zero_iff.1 hz2)
    rw [hz2]
    subst hcap
    clear hc1 hlen
    go_wp2_with fail
    refine (HF.out _ (by rw [HZ.out]; exact RowQ.none _ _)).mono ?_
    intro e w3 h3
    have HPost := hide h3
    obtain ⟨⟨u3, rfl, _⟩, _⟩ := h3
    go_wp2
    go_ret2
    exact HPost.out
  · go_wp2_with fail
    refine (HF.out _ (RowQ.tail HQ.out rfl)).mono ?_
    intro e w3 h3
    have HPost := hide h3
    obtain ⟨⟨u3, rfl, _⟩, _⟩ := h3
    go_wp2
    go_ret2
    exact HPost.out

set_option maxRecDepth 100000 in
set_option maxHeartbeats 2000000 in
theorem ofList_name (s : ByteArray) (hk : kwB s.data.toList = false) (vs : List Value) (v : Value) (w : World) (m : Nat) (r : Bool) (hrow : RowQ w v (.iface 134 (.string s) :: vs)) (hf : Calls Tryz.prog 96 #[v] w (OfPost w m r)) :
    Calls Tryz.prog 57 #[v] w (OfPost w m r) := by
  have HF := hide hf
  rw [kwB_of] at hk
  simp only [Bool.or_eq_false_iff] at hk
  obtain ⟨k1, k2, k3, k4, k5, k6, k7⟩ := hk
  obtain ⟨a, cap, rfl, hc1, hc2, hat⟩ := hrow
  obtain ⟨g, off, rfl, hg, hat⟩ := hat (by simp)
  have c0 := hat 0 _ rfl
  rw [Nat.add_zero] at c0
  have hta := as_sym
  unfold maxLen at hc2
  simp only [List.length_cons] at *
  clear hat hf
  go_enter Tryz.func57, Tryz.ntmps57
  go_wp2_with fail
  refine HF.out.mono ?_
  intro e w3 h3
  have HPost := hide h3
  obtain ⟨⟨u3, rfl, _⟩, _⟩ := h3
  go_wp2
  go_ret2
  exact HPost.out

set_option maxRecDepth 100000 in
set_option maxHeartbeats 2000000 in
theorem ofList_Int (x : Value) (vs : List Value) (v : Value) (w : World) (m : Nat) (r : Bool) (hrow : RowQ w v (.iface 130 x :: vs)) (hf : Calls Tryz.prog 96 #[v] w (OfPost w m r)) :
    Calls Tryz.prog 57 #[v] w (OfPost w m r) := by
  have HF := hide hf
  obtain ⟨a, cap, rfl, hc1, hc2, hat⟩ := hrow
  obtain ⟨g, off, rfl, hg, hat⟩ := hat (by simp)
  have c0 := hat 0 _ rfl
  rw [Nat.add_zero] at c0
  have hta := as_sym_Int
  unfold maxLen at hc2
  simp only [List.length_cons] at *
  clear hat hf
  go_enter Tryz.func57, Tryz.ntmps57
  go_wp2_with fail
  refine HF.out.mono ?_
  intro e w3 h3
  have HPost := hide h3
  obtain ⟨⟨u3, rfl, _⟩, _⟩ := h3
  go_wp2
  go_ret2
  exact HPost.out
set_option maxRecDepth 100000 in
set_option maxHeartbeats 2000000 in
theorem ofList_Bool (x : Value) (vs : List Value) (v : Value) (w : World) (m : Nat) (r : Bool) (hrow : RowQ w v (.iface 131 x :: vs)) (hf : Calls Tryz.prog 96 #[v] w (OfPost w m r)) :
    Calls Tryz.prog 57 #[v] w (OfPost w m r) := by
  have HF := hide hf
  obtain ⟨a, cap, rfl, hc1, hc2, hat⟩ := hrow
  obtain ⟨g, off, rfl, hg, hat⟩ := hat (by simp)
  have c0 := hat 0 _ rfl
  rw [Nat.add_zero] at c0
  have hta := as_sym_Bool
  unfold maxLen at hc2
  simp only [List.length_cons] at *
  clear hat hf
  go_enter Tryz.func57, Tryz.ntmps57
  go_wp2_with fail
  refine HF.out.mono ?_
  intro e w3 h3
  have HPost := hide h3
  obtain ⟨⟨u3, rfl, _⟩, _⟩ := h3
  go_wp2
  go_ret2
  exact HPost.out
set_option maxRecDepth 100000 in
set_option maxHeartbeats 2000000 in
theorem ofList_Empty (x : Value) (vs : List Value) (v : Value) (w : World) (m : Nat) (r : Bool) (hrow : RowQ w v (.iface 207 x :: vs)) (hf : Calls Tryz.prog 96 #[v] w (OfPost w m r)) :
    Calls Tryz.prog 57 #[v] w (OfPost w m r) := by
  have HF := hide hf
  obtain ⟨a, cap, rfl, hc1, hc2, hat⟩ := hrow
  obtain ⟨g, off, rfl, hg, hat⟩ := hat (by simp)
  have c0 := hat 0 _ rfl
  rw [Nat.add_zero] at c0
  have hta := as_sym_Empty
  unfold maxLen at hc2
  simp only [List.length_cons] at *
  clear hat hf
  go_enter Tryz.func57, Tryz.ntmps57
  go_wp2_with fail
  refine HF.out.mono ?_
  intro e w3 h3
  have HPost := hide h3
  obtain ⟨⟨u3, rfl, _⟩, _⟩ := h3
  go_wp2
  go_ret2
  exact HPost.out
set_option maxRecDepth 100000 in
set_option maxHeartbeats 2000000 in
theorem ofList_Pair (x : Value) (vs : List Value) (v : Value) (w : World) (m : Nat) (r : Bool) (hrow : RowQ w v (.iface 136 x :: vs)) (hf : Calls Tryz.prog 96 #[v] w (OfPost w m r)) :
    Calls Tryz.prog 57 #[v] w (OfPost w m r) := by
  have HF := hide hf
  obtain ⟨a, cap, rfl, hc1, hc2, hat⟩ := hrow
  obtain ⟨g, off, rfl, hg, hat⟩ := hat (by simp)
  have c0 := hat 0 _ rfl
  rw [Nat.add_zero] at c0
  have hta := as_sym_Pair
  unfold maxLen at hc2
  simp only [List.length_cons] at *
  clear hat hf
  go_enter Tryz.func57, Tryz.ntmps57
  go_wp2_with fail
  refine HF.out.mono ?_
  intro e w3 h3
  have HPost := hide h3
  obtain ⟨⟨u3, rfl, _⟩, _⟩ := h3
  go_wp2
  go_ret2
  exact HPost.out
end Go.Proofs.YtlobegpjenabaaaGreatDoor
