/- read: the reader in memory; innermost, leave. -/
import Derived.Test.YtlobegpjenabaaaGreatDoorImpTokV
namespace Go.Proofs.YtlobegpjenabaaaGreatDoor
open Go.RowKit
set_option linter.unusedSimpArgs false
set_option linter.unusedVariables false
attribute [local go_sem ↓] Go.wp_at_zero Go.wp_at_succ

/-- The reader's block. -/
def rdr (fv ov : Value) : Obj := .cells #[fv, ov] 122 (0, 0)

set_option maxHeartbeats 1000000 in
theorem innermost_any (R g n cap : Nat) (fv : Value) (w : World) (hR : w.heap[R]? = some (rdr fv (.slice (some ⟨g, 0, none⟩) n cap))) (hn : 0 < n) (hc : n ≤ cap) (hm : cap ≤ maxLen) :
    Calls Tryz.prog 138 #[.pointer (some ⟨R, 0, none⟩)] w fun e w' => e = .returned (.pointer (some ⟨g, (n - 1) * 2, none⟩)) ∧ ∃ q, w' = w.drewN q := by
  have c1 := cell_of_block hR 1
  simp at c1
  clear hR
  unfold maxLen at hm
  obtain ⟨m, rfl⟩ : ∃ m, n = m + 1 := ⟨n - 1, by omega⟩
  have i1 : (0 : Int) ≤ ((m + 1 : Nat) : Int) - 1 := by omega
  have i2 : ((m + 1 : Nat) : Int) - 1 < ((m + 1 : Nat) : Int) := by omega
  go_enter Tryz.func138, Tryz.ntmps138
  go_wp2
  go_quiet (fail)
  go_wp2
  go_ret
  exact ⟨by simp, _, rfl⟩

set_option maxHeartbeats 1000000 in
theorem leave_any (R g n cap : Nat) (fv : Value) (w : World) (hR : w.heap[R]? = some (rdr fv (.slice (some ⟨g, 0, none⟩) n cap))) (hn : 0 < n) (hc : n ≤ cap) (hm : cap ≤ maxLen) :
    Calls Tryz.prog 140 #[.pointer (some ⟨R, 0, none⟩)] w fun e w' => e = .returned (.tuple #[]) ∧ w'.heap[R]? = some (rdr fv (.slice (some ⟨g, 0, none⟩) (n - 1) cap)) ∧ Upd (fun k => k = R) w w' := by
  have c1 := cell_of_block hR 1
  have f1 := frozen_of_block hR 1
  simp at c1
  have HR := hide hR
  clear hR
  unfold maxLen at hm
  obtain ⟨m, rfl⟩ : ∃ m, n = m + 1 := ⟨n - 1, by omega⟩
  have i1 : (0 : Int) ≤ ((m + 1 : Nat) : Int) - 1 := by omega
  have i2 : ((m + 1 : Nat) : Int) - 1 ≤ (cap : Int) := by omega
  go_enter Tryz.func140, Tryz.ntmps140
  go_wp2
  go_region
  all_goals
    go_end0
    exact ⟨rfl, heap_setCell_same HR.out, ((Upd.refl (fun k => k = R) w).setCell ⟨R, 1, none⟩ _ (fun _ => rfl)).drew⟩

/-- What is open, outermost first, as the cells of its row. -/
def flatO : List (Bool × List D) → List (Value × List Value) → List Value
  | (q, _) :: os, (v, _) :: is => .bool q :: v :: flatO os is
  | _, _ => []
/-- Each one's data lie in a row of its own. -/
def OpensOk (w : World) (B : Nat) : Nat → List (Bool × List D) → List (Value × List Value) → Prop
  | _, [], [] => True
  | k, (_, ds) :: os, (v, vs) :: is => RowI B w v vs ∧ IVs w (20 - k) vs ds ∧ OpensOk w B (k + 1) os is
  | _, _, _ => False
/-- Two slices that do not lie in one block. -/
def ApartV (a b : Value) : Prop := ∀ g, a.ownBlock = some g → b.ownBlock = some g → False

/-- The reader in memory: the forms, and what is open, innermost first. -/
structure RdOk (w : World) (R B : Nat) (forms : List D) (opens : List (Bool × List D)) (fv ov : Value) (fs : List Value) (its : List (Value × List Value)) : Prop where
  hR : w.heap[R]? = some (rdr fv ov)
  hlt : R < B
  hf : RowI B w fv fs
  hfi : IVs w 21 fs forms
  ho : w.ownsRow B 250 2 ov its.length (flatO opens.reverse its)
  hits : OpensOk w B 0 opens.reverse its
  ap : (fv :: its.map Prod.fst).Pairwise ApartV

theorem OpensOk.length {w : World} {B : Nat} : ∀ {k : Nat} {os : List (Bool × List D)} {is : List (Value × List Value)}, OpensOk w B k os is → os.length = is.length
  | _, [], [], _ => rfl
  | k, (_, _) :: os, (_, _) :: is, h => by simp [OpensOk.length h.2.2]
  | _, [], _ :: _, h => h.elim
  | _, _ :: _, [], h => by cases ‹_ × _›; exact h.elim
theorem OpensOk.snoc {w : World} {B : Nat} : ∀ {k : Nat} {os : List (Bool × List D)} {is : List (Value × List Value)} {q : Bool} {ds : List D} {v : Value} {vs : List Value}, OpensOk w B k os is → RowI B w v vs → IVs w (20 - (k + os.length)) vs ds → OpensOk w B k (os ++ [(q, ds)]) (is ++ [(v, vs)])
  | k, [], [], q, ds, v, vs, _, h1, h2 => ⟨h1, h2, trivial⟩
  | k, (_, _) :: os, (_, _) :: is, q, ds, v, vs, h, h1, h2 => ⟨h.1, h.2.1, OpensOk.snoc h.2.2 h1 (by rw [show k + 1 + os.length = k + ((_ :: os : List (Bool × List D))).length from by simp; omega]; exact h2)⟩
  | _, [], _ :: _, _, _, _, _, h, _, _ => h.elim
  | _, _ :: _, [], _, _, _, _, h, _, _ => by cases ‹_ × _›; exact h.elim
/-- The innermost, taken off. -/
theorem OpensOk.last {w : World} {B : Nat} : ∀ {k : Nat} {os : List (Bool × List D)} {o : Bool × List D} {is : List (Value × List Value)}, OpensOk w B k (os ++ [o]) is → ∃ is' v vs, is = is' ++ [(v, vs)] ∧ OpensOk w B k os is' ∧ RowI B w v vs ∧ IVs w (20 - (k + os.length)) vs o.2
  | k, [], (q, ds), (v, vs) :: is, h => by
    cases is with
    | nil => exact ⟨[], v, vs, rfl, trivial, h.1, h.2.1⟩
    | cons a b => exact h.2.2.elim
  | k, [], (q, ds), [], h => h.elim
  | k, (_, _) :: os, o, (a, b) :: is, h => by
    obtain ⟨is', v, vs, e, h1, h2, h3⟩ := OpensOk.last h.2.2
    exact ⟨(a, b) :: is', v, vs, by rw [e]; rfl, ⟨h.1, h.2.1, h1⟩, h2, by rw [show k + ((_ :: os : List (Bool × List D))).length = k + 1 + os.length from by simp; omega]; exact h3⟩
  | k, (_, _) :: os, o, [], h => h.elim
theorem flatO_snoc : ∀ {os : List (Bool × List D)} {is : List (Value × List Value)} {q : Bool} {ds : List D} {v : Value} {vs : List Value}, os.length = is.length → flatO (os ++ [(q, ds)]) (is ++ [(v, vs)]) = flatO os is ++ [.bool q, v]
  | [], [], _, _, _, _, _ => rfl
  | (_, _) :: os, (_, _) :: is, q, ds, v, vs, h => by
    have := flatO_snoc (os := os) (is := is) (q := q) (ds := ds) (v := v) (vs := vs) (by simpa using h)
    simp only [List.cons_append, flatO, this]
  | [], _ :: _, _, _, _, _, h => by simp at h
  | _ :: _, [], _, _, _, _, h => by simp at h
theorem flatO_length : ∀ {os : List (Bool × List D)} {is : List (Value × List Value)}, os.length = is.length → (flatO os is).length = is.length * 2
  | [], [], _ => rfl
  | (_, _) :: os, (_, _) :: is, h => by
    have := flatO_length (os := os) (is := is) (by simpa using h)
    simp only [flatO, List.length_cons, this]; omega
  | [], _ :: _, h => by simp at h
  | _ :: _, [], h => by simp at h

/-- Everything that is open is as it was, where its rows are. -/
theorem OpensOk.keep {w w' : World} {B : Nat} {S : Nat → Prop} (hu : Upd S w w') (hk : Keep 205 w w') : ∀ {k : Nat} {os : List (Bool × List D)} {is : List (Value × List Value)}, OpensOk w B k os is → (∀ x ∈ is, ∀ g, x.1.ownBlock = some g → ¬ S g) → OpensOk w' B k os is
  | _, [], [], _, _ => trivial
  | k, (_, _) :: os, (v, vs) :: is, h, hs => ⟨ownsRow_of_upd h.1 hu (fun g hg => hs (v, vs) (by simp) g hg), IVs.keep hk _ _ _ h.2.1, OpensOk.keep hu hk h.2.2 (fun x hx => hs x (by simp [hx]))⟩
  | _, [], _ :: _, h, _ => h.elim
  | _, _ :: _, [], h, _ => by cases ‹_ × _›; exact h.elim
theorem ownsRow_tag {w : World} {base e e' size n : Nat} {v : Value} {xs : List Value} {c : Array Value} {fz : Nat × Nat} (h : w.ownsRow base e size v n xs) {k : Nat} (hk : v.ownBlock = some k) (hh : w.heap[k]? = some (Obj.cells c e' fz)) : e' = e := by
  rcases h.2 with ⟨hv, _⟩ | ⟨g', cap, cu, hv, hb, hg, r⟩
  · rw [hv] at hk; cases hk
  · rw [hv] at hk; cases hk; rw [hh] at hg; cases hg; rfl
theorem OpensOk.rows {w : World} {B : Nat} : ∀ {k : Nat} {os : List (Bool × List D)} {is : List (Value × List Value)}, OpensOk w B k os is → ∀ x ∈ is, RowI B w x.1 x.2
  | _, [], [], _ => fun x hx => absurd hx (by simp)
  | k, (_, _) :: os, (v, vs) :: is, h => fun x hx => by
    rcases List.mem_cons.1 hx with rfl | hx
    · exact h.1
    · exact OpensOk.rows h.2.2 x hx
  | _, [], _ :: _, h => h.elim
  | _, _ :: _, [], h => by cases ‹_ × _›; exact h.elim
end Go.Proofs.YtlobegpjenabaaaGreatDoor
