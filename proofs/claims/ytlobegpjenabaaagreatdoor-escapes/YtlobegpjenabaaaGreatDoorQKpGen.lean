/- lathekeep: what its walks share. -/
import Derived.Test.YtlobegpjenabaaaGreatDoorQKpLst
namespace Go.Proofs.YtlobegpjenabaaaGreatDoor
open Go.RowKit
set_option linter.unusedSimpArgs false
set_option linter.unusedVariables false

theorem run_of {C : Cd} {most fuel : Nat} {t : List UInt8} {o : List (List UInt8)} (hr : (goS C fuel (startS C) most 0).map (fun r => r.2) = some (.done t o)) : ∃ fuel m, goS C fuel (startS C) most 0 = some (m, .done t o) := by
  cases hg : goS C fuel (startS C) most 0 with
  | none => rw [hg] at hr; cases hr
  | some r =>
    obtain ⟨m, r⟩ := r
    rw [hg] at hr
    have hr : some r = some (.done t o) := hr
    cases hr
    exact ⟨fuel, m, hg⟩
theorem dvs_two {N : Nat} {a b : D} {cs : List V} (h : DVs N [some a, some b] cs) : ∃ v1 v2, cs = [v1, v2] ∧ DV N a v1 ∧ DV N b v2 := by
  match cs, h with
  | [v1, v2], h => exact ⟨v1, v2, rfl, h.1, h.2.1⟩
  | [], h => exact h.elim
  | [_], h => exact h.2.elim
  | _ :: _ :: _ :: _, h => exact h.2.2.elim
theorem dvs_three {N : Nat} {a b c : D} {cs : List V} (h : DVs N [some a, some b, some c] cs) : ∃ v1 v2 v3, cs = [v1, v2, v3] ∧ DV N a v1 ∧ DV N b v2 ∧ DV N c v3 := by
  match cs, h with
  | [v1, v2, v3], h => exact ⟨v1, v2, v3, rfl, h.1, h.2.1, h.2.2.1⟩
  | [], h => exact h.elim
  | [_], h => exact h.2.elim
  | [_, _], h => exact h.2.2.elim
  | _ :: _ :: _ :: _ :: _, h => exact h.2.2.2.elim
theorem zip_ints (is : List Nat) (l : List Int) (h : is.length = l.length) : ∃ zs : List (Nat × Int), is = zs.map (·.1) ∧ l = zs.map (·.2) ∧ zs.length = l.length :=
  ⟨is.zip l, by rw [List.map_fst_zip (by omega)], by rw [List.map_snd_zip (by omega)], by rw [List.length_zip]; omega⟩
/-- says, of a text that says this. -/
theorem says_says {S : ByteArray} {l t : List UInt8} {o : List (List UInt8)} (hs : Says l 5000 t o) (hS : S.data.toList = l) (W : World) (hW : Env W) : Calls Tryz.prog 32 #[.string S, .int .i64 5000] W (SaysP W t o) := by
  have hl := hs.len
  rw [← hS] at hl
  exact says_go S 5000 t o (by rw [hS]; exact hs) (by decide) (by unfold maxLen; have : S.data.toList.length = S.size := by simp
                                                                  omega) W hW.mx hW.tb
theorem tmod3 (x : Int) : -1000 < x.tmod 1000 ∧ x.tmod 1000 < 1000 :=
  ⟨Int.lt_tmod_of_pos x (show (0 : Int) < 1000 by omega), Int.tmod_lt_of_pos x (show (0 : Int) < 1000 by omega)⟩
theorem tmod5 (x : Int) : -100000 < x.tmod 100000 ∧ x.tmod 100000 < 100000 :=
  ⟨Int.lt_tmod_of_pos x (show (0 : Int) < 100000 by omega), Int.tmod_lt_of_pos x (show (0 : Int) < 100000 by omega)⟩
/-- Texts of a row, one by one. -/
theorem row_strs {w : World} {B : Nat} {v : Value} {l : List (List UInt8)} (h : w.ownsRow B 9 1 v l.length (l.map strV)) : ∃ a cap, v = .slice a l.length cap ∧ ∀ i (hi : i < l.length), ∃ g, a = some ⟨g, 0, none⟩ ∧ g < w.heap.size ∧ w.cell? ⟨g, i, none⟩ = some (.string ⟨l[i].toArray⟩) := by
  obtain ⟨a, cap, rfl, _, _, _⟩ := ownsRow_slice h
  refine ⟨a, cap, rfl, fun i hi => ?_⟩
  rcases h.2 with ⟨hv, h0⟩ | ⟨g, cap', cu, hv, hg, hh, _⟩
  · omega
  · cases hv
    refine ⟨g, rfl, lt_of_some hh, ?_⟩
    have := h.cellAt i (by omega)
    rw [this]
    simp [strV, hi]
theorem three_at (w : World) (x y z : Int) : ∀ i (hi : i < [x, y, z].length), ∃ g off, (some ⟨w.heap.size, 0, none⟩ : Option Addr) = some ⟨g, off, none⟩ ∧ g < (w.alloc (.cells #[.int .i64 x, .int .i64 y, .int .i64 z] 3)).heap.size ∧ (w.alloc (.cells #[.int .i64 x, .int .i64 y, .int .i64 z] 3)).cell? ⟨g, off + i, none⟩ = some (.int .i64 [x, y, z][i]) := by
  intro i hi
  refine ⟨w.heap.size, 0, rfl, by simp, ?_⟩
  rw [Nat.zero_add]
  refine (World.cell?_alloc_at _ _ _ _ (by simp)).trans ?_
  match i, hi with
  | 0, _ => rfl
  | 1, _ => rfl
  | 2, _ => rfl
end Go.Proofs.YtlobegpjenabaaaGreatDoor
