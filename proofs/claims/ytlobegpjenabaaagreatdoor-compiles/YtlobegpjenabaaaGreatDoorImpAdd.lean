/- read: add, in parts. -/
import Derived.Test.YtlobegpjenabaaaGreatDoorImpBegin
namespace Go.Proofs.YtlobegpjenabaaaGreatDoor
open Go.RowKit
set_option linter.unusedSimpArgs false
set_option linter.unusedVariables false

/-- A whole datum, put where it stands. -/
def addS (forms : List D) : List (Bool × List D) → D → List D × List (Bool × List D)
  | [], d => (forms ++ [d], [])
  | (true, _) :: os, d => addS forms os (lst [sym qsym, d])
  | (false, ds) :: os, d => (forms, (false, ds ++ [d]) :: os)

theorem ownsRow_pop' {w : World} {B e size g n cap : Nat} {xs ys : List Value} (h : w.ownsRow B e size (.slice (some ⟨g, 0, none⟩) (n + 1) cap) (n + 1) (xs ++ ys)) (hx : xs.length = n * size) : w.ownsRow B e size (.slice (some ⟨g, 0, none⟩) n cap) n xs := by
  refine ⟨hx, ?_⟩
  rcases h.2 with ⟨hv, _⟩ | ⟨g', cap', cu, hv, hb, hg, h1, h2, h3, h4⟩
  · cases hv
  · cases hv
    refine Or.inr ⟨g, cap, cu, rfl, hb, hg, by omega, h2, h3, ?_⟩
    have : (cu.toList.take ((n + 1) * size)).take (n * size) = xs := by rw [h4, List.take_left' hx]
    rw [List.take_take] at this
    rw [← this]; congr 1; rw [Nat.min_eq_left]; exact Nat.mul_le_mul_right _ (by omega)

/-- The innermost that is open, in memory. -/
theorem RdOk.inner {w : World} {R B : Nat} {forms : List D} {q : Bool} {ds : List D} {os : List (Bool × List D)} {fv ov : Value} {fs : List Value} {its : List (Value × List Value)} (h : RdOk w R B forms ((q, ds) :: os) fv ov fs its) :
    ∃ g cap is' v vs, its = is' ++ [(v, vs)] ∧ ov = .slice (some ⟨g, 0, none⟩) (os.length + 1) cap ∧ is'.length = os.length ∧ os.length + 1 ≤ cap ∧ cap ≤ maxLen ∧ B ≤ g ∧ g < w.heap.size ∧
      w.cell? ⟨g, os.length * 2, none⟩ = some (.bool q) ∧ w.cell? ⟨g, os.length * 2 + 1, none⟩ = some v ∧ w.frozen? ⟨g, os.length * 2 + 1, none⟩ = false ∧ OpensOk w B 0 os.reverse is' ∧ RowI B w v vs ∧ IVs w (20 - os.length) vs ds ∧
      w.ownsRow B 250 2 (.slice (some ⟨g, 0, none⟩) (os.length + 1) cap) (os.length + 1) (flatO os.reverse is' ++ [.bool q, v]) := by
  have hits := h.hits
  rw [List.reverse_cons] at hits
  obtain ⟨is', v, vs, e, h1, h2, h3⟩ := hits.last
  subst e
  have hl := h1.length
  simp only [List.length_reverse] at hl
  have ho := h.ho
  rw [List.reverse_cons, flatO_snoc (by simpa using hl), List.length_append, List.length_singleton, ← hl] at ho
  have hfl : (flatO os.reverse is').length = os.length * 2 := by rw [flatO_length (by simpa using hl), ← hl]
  obtain ⟨g, cap, hv, hb, hg, hc1, hc2, hc⟩ := ownsRow_cell ho (by omega)
  subst hv
  refine ⟨g, cap, is', v, vs, rfl, rfl, hl.symm, hc1, hc2, hb, hg, hc _ _ ?_, hc _ _ ?_, ?_, h1, h2, by simpa using h3, ho⟩
  · rw [List.getElem?_append_right (by omega), hfl]; simp
  · rw [List.getElem?_append_right (by omega), hfl]; simp
  · rcases ho.2 with ⟨hv, _⟩ | ⟨g', cap', cu, hv, hb, hg', r⟩
    · cases hv
    · cases hv; exact frozen_of_block hg' _

/-- The innermost is left. -/
theorem leave_ok {w W' : World} {R B g cap : Nat} {forms : List D} {q : Bool} {ds : List D} {os : List (Bool × List D)} {fv : Value} {fs : List Value} {is' : List (Value × List Value)} {v : Value} {vs : List Value} (h : RdOk w R B forms ((q, ds) :: os) fv (.slice (some ⟨g, 0, none⟩) (os.length + 1) cap) fs (is' ++ [(v, vs)]))
    (hl : is'.length = os.length) (hR : W'.heap[R]? = some (rdr fv (.slice (some ⟨g, 0, none⟩) os.length cap))) (hu : Upd (fun k => k = R) w W') : RdOk W' R B forms os fv (.slice (some ⟨g, 0, none⟩) os.length cap) fs is' := by
  obtain ⟨g', cap', is2, v2, vs2, e, hv, hl2, _, _, _, _, _, _, _, hop, _, _, ho⟩ := h.inner
  obtain ⟨rfl, e2⟩ := List.append_inj' e rfl
  cases e2
  cases hv
  have hk : Keep 205 w W' := Keep.of_upd hu (by intro k c hx; subst hx; rw [h.hR]; simp [rdr])
  have hne : ∀ (v : Value) {e n : Nat} {xs : List Value} {z : Nat}, w.ownsRow B e z v n xs → ∀ k, v.ownBlock = some k → ¬ k = R := by
    intro v e n xs z hr k hk hx
    subst hx; have := (ownsRow_ge hr hk).1; have := h.hlt; omega
  refine ⟨hR, h.hlt, ownsRow_of_upd h.hf hu (hne fv h.hf), IVs.keep hk _ _ _ h.hfi, ?_, hop.keep hu hk (fun x hx => hne x.1 (hop.rows x hx)), ?_⟩
  · rw [hl]
    refine ownsRow_of_upd (ownsRow_pop' ho (by rw [flatO_length (by simpa using hl.symm), hl])) hu (fun k hk hx => ?_)
    have hx' : g = R := by cases hk; exact hx
    have := (ownsRow_ge ho (show Value.ownBlock _ = some g from rfl)).1
    have := h.hlt; omega
  · have := h.ap
    rw [List.map_append, ← List.cons_append, List.pairwise_append] at this
    exact this.1

/-- Of two rows of values that do not lie in one block one is as it was where the other grew. -/
theorem row_apart {w w' : World} {B : Nat} {v u : Value} {vs : List Value} {S : Nat → Prop} (h : RowI B w v vs) (hu : Upd S w w') (hS : ∀ g, v.ownBlock = some g → ¬ S g) : RowI B w' v vs := ownsRow_of_upd h hu hS

theorem ownsRow_diff {w : World} {B1 B2 e1 e2 z1 z2 n1 n2 : Nat} {v1 v2 : Value} {xs1 xs2 : List Value} (h1 : w.ownsRow B1 e1 z1 v1 n1 xs1) (h2 : w.ownsRow B2 e2 z2 v2 n2 xs2) (hne : e1 ≠ e2) {k : Nat} (hk1 : v1.ownBlock = some k) (hk2 : v2.ownBlock = some k) : False := by
  rcases h1.2 with ⟨hv, _⟩ | ⟨g', cap', cu, hv, hb, hg, r⟩
  · rw [hv] at hk1; cases hk1
  · rw [hv] at hk1; cases hk1
    exact hne (ownsRow_tag h2 hk2 hg)

/-- The forms have one more. -/
theorem form_ok {w w1 : World} {R B g cap : Nat} {forms : List D} {fv ov u : Value} {fs : List Value} {d : D} (h : RdOk w R B forms [] fv ov fs []) (hfl : fs.length = forms.length) (hd : IV w 21 u d) (hu : Upd (fun k => fv.ownBlock = some k) w w1)
    (ho : w1.ownsRow B 81 1 (.slice (some ⟨g, 0, none⟩) (fs.length + 1) cap) (fs.length + 1) (fs ++ [u])) (W' : World) (hW : W' = w1.setCell ⟨R, 0, none⟩ (.slice (some ⟨g, 0, none⟩) (fs.length + 1) cap)) :
    RdOk W' R B (forms ++ [d]) [] (.slice (some ⟨g, 0, none⟩) (fs.length + 1) cap) ov (fs ++ [u]) [] ∧ UpdR R B w W' := by
  have hR1 := hu.at h.hR (fun hx => by have := (ownsRow_ge h.hf hx).1; have := h.hlt; omega)
  have hus : Upd (fun k => k = R) w1 W' := by rw [hW]; exact (Upd.refl (fun k => k = R) w1).setCell ⟨R, 0, none⟩ _ (fun _ => rfl)
  have hk1 : Keep 205 w w1 := Keep.of_upd hu (fun k c hx hh => by have := ownsRow_tag h.hf hx hh; exact absurd this (by decide))
  have hk2 : Keep 205 w1 W' := Keep.of_upd hus (by intro k c hx; subst hx; rw [hR1]; simp [rdr])
  have hkk := hk1.trans hk2
  have huu : UpdR R B w W' := UpdR.of_upd (S := fun k => k = R ∨ fv.ownBlock = some k) ((hu.mono (fun j hj => Or.inr hj)).trans hus (fun j _ hj => Or.inl hj)) (fun k hk => hk.elim (fun e => ⟨Or.inl e, cellsR h.hR e⟩) (fun e => ⟨Or.inr (ownsRow_ge h.hf e).1, ownsRow_cells h.hf (by decide) e⟩))
  refine ⟨⟨?_, h.hlt, ?_, IVs.append (IVs.keep hkk _ _ _ h.hfi) ⟨IV.keep hkk _ _ _ hd, trivial⟩, ?_, trivial, by simp⟩, huu⟩
  · rw [hW]; exact heap_setCell_same hR1
  · unfold RowI; rw [List.length_append]
    refine ownsRow_of_upd ho hus (fun k hk hx => ?_)
    have := (ownsRow_ge ho hk).1; have := h.hlt; omega
  · have h1 := ownsRow_of_upd h.ho hu (fun k hk hx => ownsRow_diff h.ho h.hf (by decide) hk hx)
    refine ownsRow_of_upd h1 hus (fun k hk hx => ?_)
    have := (ownsRow_ge h.ho hk).1; have := h.hlt; omega

/-- The innermost list has one more. -/
theorem item_ok {w w1 : World} {R B g cap g2 cap2 : Nat} {forms : List D} {q : Bool} {ds : List D} {os : List (Bool × List D)} {fv v u : Value} {fs vs : List Value} {is' : List (Value × List Value)} {d : D}
    (h : RdOk w R B forms ((q, ds) :: os) fv (.slice (some ⟨g, 0, none⟩) (os.length + 1) cap) fs (is' ++ [(v, vs)])) (hl : is'.length = os.length) (hd : IV w (20 - os.length) u d) (hu : Upd (fun k => v.ownBlock = some k) w w1)
    (hat : v.ownBlock = some g2 ∨ w.heap.size ≤ g2) (ho : w1.ownsRow B 81 1 (.slice (some ⟨g2, 0, none⟩) (vs.length + 1) cap2) (vs.length + 1) (vs ++ [u])) (W' : World) (hW : W' = w1.setCell ⟨g, os.length * 2 + 1, none⟩ (.slice (some ⟨g2, 0, none⟩) (vs.length + 1) cap2)) :
    RdOk W' R B forms ((q, ds ++ [d]) :: os) fv (.slice (some ⟨g, 0, none⟩) (os.length + 1) cap) fs (is' ++ [(.slice (some ⟨g2, 0, none⟩) (vs.length + 1) cap2, vs ++ [u])]) ∧ UpdR R B w W' := by
  obtain ⟨g', cap', isx, v2, vs2, e, hv, hl2, _, _, hBg, _, _, _, _, hop, hrow, hivs, hoo⟩ := h.inner
  obtain ⟨rfl, e2⟩ := List.append_inj' e rfl
  cases e2
  cases hv
  have hap := h.ap
  rw [List.map_append, ← List.cons_append, List.pairwise_append] at hap
  obtain ⟨hap1, _, hap2⟩ := hap
  have hoo1 := ownsRow_of_upd hoo hu (fun k hk hx => ownsRow_diff hoo hrow (by decide) hk hx)
  have hst := (hoo1.stored (os.length * 2 + 1) (.slice (some ⟨g2, 0, none⟩) (vs.length + 1) cap2)).1
  have hus : Upd (fun k => k = g) w1 W' := by rw [hW]; exact (Upd.refl (fun k => k = g) w1).setCell ⟨g, os.length * 2 + 1, none⟩ _ (fun _ => rfl)
  have hR1 := hu.at h.hR (fun hx => by have := (ownsRow_ge hrow hx).1; have := h.hlt; omega)
  have hR2 := hus.at hR1 (by have := h.hlt; omega)
  have hgb : (Value.slice (some ⟨g, 0, none⟩) (os.length + 1) cap).ownBlock = some g := rfl
  have hk1 : Keep 205 w w1 := Keep.of_upd hu (fun k c hx hh => by have := ownsRow_tag hrow hx hh; exact absurd this (by decide))
  have hk2 : Keep 205 w1 W' := Keep.of_upd hus (fun k c hx hh => by subst hx; have := ownsRow_tag hoo1 hgb hh; exact absurd this (by decide))
  have hkk := hk1.trans hk2
  have huu : Upd (fun k => v.ownBlock = some k ∨ k = g) w W' := (hu.mono (fun j hj => Or.inl hj)).trans hus (fun j _ hj => Or.inr hj)
  have hoth : ∀ (a : Value) (aa : List Value), RowI B w a aa → ApartV a v → ∀ k, a.ownBlock = some k → ¬ (v.ownBlock = some k ∨ k = g) := by
    intro a aa ha hav k hk hx
    rcases hx with hx | rfl
    · exact hav k hk hx
    · exact ownsRow_diff hoo ha (by decide) hgb hk
  have hfa : ApartV fv v := hap2 fv (by simp) v (by simp)
  refine ⟨⟨hR2, h.hlt, ownsRow_of_upd h.hf huu (hoth fv fs h.hf hfa), IVs.keep hkk _ _ _ h.hfi, ?_, ?_, ?_⟩, UpdR.of_upd huu (fun j hj => ?_)⟩
  · rw [List.reverse_cons, flatO_snoc (by simpa using hl.symm), List.length_append, List.length_singleton, hl, hW]
    have hfl : (flatO os.reverse is').length = os.length * 2 := by rw [flatO_length (by simpa using hl.symm), hl]
    rw [show flatO os.reverse is' ++ [Value.bool q, .slice (some ⟨g2, 0, none⟩) (vs.length + 1) cap2] = (flatO os.reverse is' ++ [Value.bool q, v]).set (os.length * 2 + 1) (.slice (some ⟨g2, 0, none⟩) (vs.length + 1) cap2) from by
      rw [List.set_append_right _ _ (by omega), hfl]; simp]
    exact hst
  · rw [List.reverse_cons]
    refine OpensOk.snoc (hop.keep huu hkk (fun x hx => hoth x.1 x.2 (hop.rows x hx) (hap2 x.1 (by simp; exact Or.inr ⟨_, hx⟩) v (by simp)))) ?_ ?_
    · unfold RowI; rw [List.length_append]
      refine ownsRow_of_upd ho hus (fun k hk hx => ?_)
      subst hx
      exact ownsRow_diff hoo1 ho (by decide) hgb hk
    · simp only [List.length_reverse, Nat.zero_add]
      exact IVs.append (IVs.keep hkk _ _ _ hivs) ⟨IV.keep hkk _ _ _ hd, trivial⟩
  · rw [List.map_append, ← List.cons_append, List.pairwise_append]
    refine ⟨hap1, by simp, fun a ha b hb k h1 h2 => ?_⟩
    simp only [List.map_cons, List.map_nil, List.mem_singleton] at hb
    subst hb
    have hkg : g2 = k := by simpa [Value.ownBlock] using h2
    subst hkg
    rcases hat with hat | hat
    · exact hap2 a ha v (by simp) g2 h1 hat
    · have : ∃ aa, RowI B w a aa := by
        rcases List.mem_cons.1 ha with rfl | ha
        · exact ⟨fs, h.hf⟩
        · obtain ⟨x, hx, rfl⟩ := List.mem_map.1 ha
          exact ⟨x.2, hop.rows x hx⟩
      obtain ⟨aa, has⟩ := this
      have := (ownsRow_ge has h1).2
      omega
  · rcases hj with hj | rfl
    · exact ⟨Or.inr (ownsRow_ge hrow hj).1, ownsRow_cells hrow (by decide) hj⟩
    · exact ⟨Or.inr hBg, ownsRow_cells hoo (by decide) hgb⟩
end Go.Proofs.YtlobegpjenabaaaGreatDoor
