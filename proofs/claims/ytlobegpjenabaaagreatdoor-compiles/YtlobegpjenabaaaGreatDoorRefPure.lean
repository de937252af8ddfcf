/- Facts on the plain functions: data by descent. -/
import Derived.Test.YtlobegpjenabaaaGreatDoorSpec
namespace Go.Proofs.YtlobegpjenabaaaGreatDoor
open Go
set_option linter.unusedSimpArgs false
set_option linter.unusedVariables false

theorem tokN_le : ∀ (l : List UInt8), tokN l ≤ l.length
  | [] => Nat.le_refl _
  | c :: r => by have := tokN_le r; simp only [tokN, List.length_cons]; split <;> omega
theorem tokEnd_le (l : List UInt8) (i : Nat) (h : i ≤ l.length) : tokEnd l i ≤ l.length := by
  have := tokN_le (l.drop i); simp at this; unfold tokEnd; omega
theorem skipB_le' : ∀ (l : List UInt8) (b : Bool), skipB b l ≤ l.length
  | [], b => by simp [skipB]
  | c :: r, false => by
    have h1 := skipB_le' r false; have h2 := skipB_le' r true
    simp only [skipB, List.length_cons]; split
    · omega
    · split <;> omega
  | c :: r, true => by
    have h1 := skipB_le' r false; have h2 := skipB_le' r true
    simp only [skipB, List.length_cons]; split <;> omega
theorem skipTo_le' (l : List UInt8) (i : Nat) (h : i ≤ l.length) : skipTo l i ≤ l.length := by
  have := skipB_le' (l.drop i) false; simp at this; unfold skipTo; omega

/-- A datum takes at least a byte; a list's rest too. -/
theorem rd_adv (l : List UInt8) : ∀ (n op i : Nat) (m : Option (List D)) (d : D) (k : Nat), i ≤ l.length → (m = none → i < l.length) → rd n l op i m = .inr (d, k) → i < k ∧ k ≤ l.length
  | 0, op, i, m, d, k, _, _, h => by simp [rd] at h
  | n + 1, op, i, none, d, k, hi, hm, h => by
    have hi := hm rfl
    simp only [rd] at h
    split at h
    · cases h
    split at h
    · split at h
      · cases h
      · have := rd_adv l n (op + 1) (i + 1) (some []) d k (by omega) (by simp) h; omega
    split at h
    · split at h
      · cases h
      · split at h
        · cases h
        · rename_i hs
          have h1 := skipTo_le' l (i + 1) (by omega)
          have h2 : i + 1 ≤ skipTo l (i + 1) := by unfold skipTo; omega
          split at h
          · cases h
          · rename_i d' k' hr
            cases h
            have := rd_adv l n (op + 1) (skipTo l (i + 1)) none d' k (by omega) (fun _ => by omega) hr; omega
    split at h
    · cases h
    · rename_i ht
      have h1 := tokEnd_le l i (by omega)
      have h2 : i ≤ tokEnd l i := by unfold tokEnd; omega
      split at h
      · cases h
      · cases h; omega
  | n + 1, op, i, some acc, d, k, hi, hm, h => by
    simp only [rd] at h
    have h1 := skipTo_le' l i hi
    have h2 : i ≤ skipTo l i := by unfold skipTo; omega
    split at h
    · cases h
    split at h
    · cases h; omega
    split at h
    · cases h
    · rename_i d' k' hr
      have := rd_adv l n op (skipTo l i) none d' k' (by omega) (fun _ => by omega) hr
      have := rd_adv l n op k' (some (acc ++ [d'])) d k (by omega) (by simp) h
      omega
/-- What is wrong is syntax or nest. -/
theorem rd_err (l : List UInt8) : ∀ (n op i : Nat) (m : Option (List D)) (e : Int) (a : Nat), i ≤ l.length → (m = none → i < l.length) → 2 * (l.length - i) + (if m.isSome then 1 else 0) < n → rd n l op i m = .inl (e, a) → ¬ e = 0
  | 0, op, i, m, e, a, _, _, hn, h => by omega
  | n + 1, op, i, none, e, a, hi, hm, hn, h => by
    have hi := hm rfl
    simp at hn
    simp only [rd] at h
    split at h
    · cases h; omega
    split at h
    · split at h
      · cases h; omega
      · exact rd_err l n (op + 1) (i + 1) (some []) e a (by omega) (by simp) (by simp; omega) h
    split at h
    · split at h
      · cases h; omega
      · split at h
        · cases h; omega
        · rename_i hs
          have h1 := skipTo_le' l (i + 1) (by omega)
          have h2 : i + 1 ≤ skipTo l (i + 1) := by unfold skipTo; omega
          split at h
          · rename_i e' hr
            cases h
            exact rd_err l n (op + 1) (skipTo l (i + 1)) none e a (by omega) (fun _ => by omega) (by simp; omega) hr
          · cases h
    split at h
    · cases h; omega
    · split at h
      · cases h; omega
      · cases h
  | n + 1, op, i, some acc, e, a, hi, hm, hn, h => by
    simp at hn
    simp only [rd] at h
    have h1 := skipTo_le' l i hi
    have h2 : i ≤ skipTo l i := by unfold skipTo; omega
    split at h
    · cases h; omega
    split at h
    · cases h
    split at h
    · rename_i e' hr
      cases h
      exact rd_err l n op (skipTo l i) none e a (by omega) (fun _ => by omega) (by simp; omega) hr
    · rename_i d' k' hr
      have := rd_adv l n op (skipTo l i) none d' k' (by omega) (fun _ => by omega) hr
      exact rd_err l n op k' (some (acc ++ [d'])) e a (by omega) (by simp) (by simp; omega) h
end Go.Proofs.YtlobegpjenabaaaGreatDoor
