/- Runs in pieces. -/
import Derived.Test.YtlobegpjenabaaaGreatDoorQKpShf
namespace Go.Proofs.YtlobegpjenabaaaGreatDoor
open Go.RowKit
set_option linter.unusedSimpArgs false
set_option linter.unusedVariables false

/-- From s so many applications more, and the program is done, saying t; never more than two are pending. -/
def Ends (C : Cd) (t : List UInt8) : Nat → MS → Prop
  | 0, _ => False
  | 1, s => s.frs ≠ [] ∧ s.st.length ≤ 3 ∧ 0 < s.st.length ∧ ∃ F, goS C F s 1 0 = some (1, .done t [])
  | N + 2, s => s.frs ≠ [] ∧ s.st.length ≤ 3 ∧ 0 < s.st.length ∧ ∃ F s', goS C F s 1 0 = some (1, .run s') ∧ Ends C t (N + 1) s'
theorem goS_shift {C : Cd} : ∀ (k : Nat) (s : MS) (n made m d : Nat) (r : RR), goS C k s n made = some (m, r) → goS C k s (n + d) (made + d) = some (m + d, r)
  | 0, s, n, made, m, d, r, h => by cases h
  | k + 1, s, n, made, m, d, r, h => by
    unfold goS at h ⊢
    cases hx : fetchS C s with
    | none => rw [hx] at h; cases h
    | some q =>
      obtain ⟨op, x⟩ := q
      rw [hx] at h
      simp only at h ⊢
      by_cases hc : op = 12 ∧ made = n
      · rw [if_pos hc] at h
        rw [if_pos ⟨hc.1, by omega⟩]
        cases h; rfl
      · rw [if_neg hc] at h
        rw [if_neg (fun e => hc ⟨e.1, by omega⟩)]
        have e1 : (if op = 12 then made + d + 1 else made + d) = (if op = 12 then made + 1 else made) + d := by split <;> omega
        rw [e1]
        cases ht : stepS C s with
        | bad => rw [ht] at h; cases h
        | ok s' => rw [ht] at h; exact goS_shift k s' n _ m d r h
        | err e d' o => rw [ht] at h; simp only at h ⊢; cases h; rfl
        | done t o => rw [ht] at h; simp only at h ⊢; cases h; rfl
/-- More rounds than it takes are of no use. -/
theorem goS_more {C : Cd} : ∀ (K : Nat) (s : MS) (n made : Nat) (r : Nat × RR), goS C K s n made = some r → ∀ j, goS C (j + K) s n made = some r
  | 0, s, n, made, r, h, _ => by cases h
  | k + 1, s, n, made, r, h, j => by
    rw [show j + (k + 1) = (j + k) + 1 by omega]
    unfold goS at h ⊢
    cases hx : fetchS C s with
    | none => rw [hx] at h; cases h
    | some q =>
      obtain ⟨op, x⟩ := q
      rw [hx] at h
      simp only at h ⊢
      split
      · rename_i hc
        rw [if_pos hc] at h
        exact h
      · rename_i hc
        rw [if_neg hc] at h
        cases ht : stepS C s with
        | bad => rw [ht] at h; cases h
        | ok s' => rw [ht] at h; exact goS_more k s' n _ r h j
        | err e d o => rw [ht] at h; exact h
        | done t o => rw [ht] at h; exact h
/-- A run that was held goes on. -/
theorem goS_on {C : Cd} : ∀ (k : Nat) (s : MS) (n made m : Nat) (s' : MS), goS C k s n made = some (m, .run s') → made ≤ n → m = n ∧ ∀ (N : Nat) (K : Nat) (r : Nat × RR), n ≤ N → goS C K s' N n = some r → goS C (k + K) s N made = some r
  | 0, s, n, made, m, s', h, _ => by cases h
  | k + 1, s, n, made, m, s', h, hl => by
    unfold goS at h
    cases hx : fetchS C s with
    | none => rw [hx] at h; cases h
    | some q =>
      obtain ⟨op, x⟩ := q
      rw [hx] at h
      simp only at h
      by_cases hc : op = 12 ∧ made = n
      · rw [if_pos hc] at h
        cases h
        refine ⟨hc.2, fun N K r hN hr => ?_⟩
        rw [← hc.2] at hr
        exact goS_more K s N made r hr (k + 1)
      · rw [if_neg hc] at h
        have hl' : (if op = 12 then made + 1 else made) ≤ n := by
          split
          · have : made ≠ n := fun e => hc ⟨by assumption, e⟩
            omega
          · exact hl
        cases ht : stepS C s with
        | bad => rw [ht] at h; cases h
        | err e d o => rw [ht] at h; simp only at h; cases h
        | done t o => rw [ht] at h; simp only at h; cases h
        | ok s1 =>
          rw [ht] at h
          simp only at h
          obtain ⟨h1, h2⟩ := goS_on k s1 n _ m s' h hl'
          refine ⟨h1, fun N K r hN hr => ?_⟩
          rw [show k + 1 + K = (k + K) + 1 by omega]
          unfold goS
          rw [hx]
          simp only
          rw [if_neg (fun e => by rw [if_pos e.1] at hl'; omega), ht]
          exact h2 N K r hN hr
theorem goS_done {C : Cd} : ∀ (k : Nat) (s : MS) (n made m : Nat) (t : List UInt8) (o : List (List UInt8)), goS C k s n made = some (m, .done t o) → made ≤ n → ∀ N, n ≤ N → goS C k s N made = some (m, .done t o)
  | 0, s, n, made, m, t, o, h, _, _, _ => by cases h
  | k + 1, s, n, made, m, t, o, h, hl, N, hN => by
    unfold goS at h ⊢
    cases hx : fetchS C s with
    | none => rw [hx] at h; cases h
    | some q =>
      obtain ⟨op, x⟩ := q
      rw [hx] at h
      simp only at h ⊢
      by_cases hc : op = 12 ∧ made = n
      · rw [if_pos hc] at h
        cases h
      · rw [if_neg hc] at h
        have hl' : (if op = 12 then made + 1 else made) ≤ n := by
          split
          · have : made ≠ n := fun e => hc ⟨by assumption, e⟩
            omega
          · exact hl
        rw [if_neg (fun e => by rw [if_pos e.1] at hl'; omega)]
        cases ht : stepS C s with
        | bad => rw [ht] at h; cases h
        | ok s' => rw [ht] at h; exact goS_done k s' n _ m t o h hl' N hN
        | err e d o' => rw [ht] at h; simp only at h; cases h
        | done t' o' => rw [ht] at h; exact h
theorem Ends.pos {C : Cd} {t : List UInt8} : ∀ {N : Nat} {s : MS}, Ends C t N s → 1 ≤ N ∧ s.frs ≠ [] ∧ s.st.length ≤ 3 ∧ 0 < s.st.length
  | 0, _, h => h.elim
  | 1, _, h => ⟨Nat.le_refl _, h.1, h.2.1, h.2.2.1⟩
  | N + 2, _, h => ⟨by omega, h.1, h.2.1, h.2.2.1⟩
/-- A piece of a run. -/
theorem Ends.piece {C : Cd} {t : List UInt8} : ∀ (k N : Nat) (s : MS), Ends C t N s → (k + 1 < N → ∃ F s', goS C F s (k + 1) 0 = some (k + 1, .run s') ∧ Ends C t (N - (k + 1)) s') ∧ (N ≤ k + 1 → ∃ F, goS C F s (k + 1) 0 = some (N, .done t []))
  | k, 0, s, h => h.elim
  | 0, 1, s, h => ⟨fun h1 => by omega, fun _ => h.2.2.2⟩
  | 0, N + 2, s, h => by
    obtain ⟨_, _, _, F, s', h1, h2⟩ := h
    exact ⟨fun _ => ⟨F, s', h1, h2⟩, fun h3 => by omega⟩
  | k + 1, 1, s, h => by
    obtain ⟨_, _, _, F, h1⟩ := h
    exact ⟨fun h3 => by omega, fun _ => ⟨F, goS_done F s 1 0 1 t [] h1 (by omega) (k + 1 + 1) (by omega)⟩⟩
  | k + 1, N + 2, s, h => by
    obtain ⟨_, _, _, F, s', h1, h2⟩ := h
    obtain ⟨g1, g2⟩ := Ends.piece k (N + 1) s' h2
    have ho := (goS_on F s 1 0 1 s' h1 (by omega)).2
    refine ⟨fun h3 => ?_, fun h3 => ?_⟩
    · obtain ⟨F2, s2, q1, q2⟩ := g1 (by omega)
      have := goS_shift F2 s' (k + 1) 0 (k + 1) 1 _ q1
      exact ⟨F + F2, s2, ho (k + 1 + 1) F2 _ (by omega) (by simpa using this), by rw [show N + 2 - (k + 1 + 1) = N + 1 - (k + 1) by omega]; exact q2⟩
    · obtain ⟨F2, q1⟩ := g2 (by omega)
      have := goS_shift F2 s' (k + 1) 0 (N + 1) 1 _ q1
      exact ⟨F + F2, ho (k + 1 + 1) F2 _ (by omega) (by simpa using this)⟩
end Go.Proofs.YtlobegpjenabaaaGreatDoor
