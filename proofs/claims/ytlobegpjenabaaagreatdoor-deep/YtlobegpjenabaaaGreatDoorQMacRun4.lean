/- Run of a machine in memory, where it fails. -/
import Derived.Test.YtlobegpjenabaaaGreatDoorQMacAs3
import Derived.Test.YtlobegpjenabaaaGreatDoorK34
namespace Go.Proofs.YtlobegpjenabaaaGreatDoor
open Go.RowKit
set_option linter.unusedSimpArgs false
set_option linter.unusedVariables false

/-- The library's variable errors.errorType holds the type error. -/
def ErrT (w : World) : Prop := w.cell? ⟨0, 0, none⟩ = some (.iface 235 (.agg #[.pointer (some ⟨7, 103, none⟩)]))
theorem ErrT.lt {w : World} (h : ErrT w) : 0 < w.heap.size := by
  rcases Nat.lt_or_ge 0 w.heap.size with hlt | hge
  · exact hlt
  · exfalso; unfold ErrT at h; simp only [World.cell?] at h; rw [Array.getElem?_eq_none hge] at h; cases h
def RunE (w : World) (m : Nat) (P : World → Prop) (e : Ending) (w' : World) : Prop := e = .returned (.tuple #[.int .i64 (m : Nat), .int .i64 0]) ∧ P w'
set_option maxRecDepth 100000 in
set_option maxHeartbeats 2000000 in
theorem run_bad (w : World) (M n m : Nat) (er d : Int) (hn : n ≤ 100000) (P : World → Prop)
    (HG : Hid (Calls Tryz.prog 49 #[.pointer (some ⟨M, 0, none⟩), .int .i64 n] w fun e w1 => ∃ ev k c E, e = .returned (.tuple #[.int .i64 (m : Nat), ev]) ∧ k ≤ 2 ∧ ErrV er k ev ∧ ErrT w1 ∧ w1.heap[M]? = some (Obj.cells c 119 (0, 0)) ∧ c.size = 12 ∧ w1.cell? ⟨M, 6, none⟩ = some (.pointer (some ⟨E, 0, none⟩)) ∧ w1.cell? ⟨E, 1, none⟩ = some (.int .i64 d) ∧ E < w1.heap.size ∧ ∀ w2, Below w1.heap.size w1 w2 → P (stopW w2 M 2 er d ⟨#[]⟩))) :
    Calls Tryz.prog 37 #[.pointer (some ⟨M, 0, none⟩), .int .i64 n] w (RunE w m P) := by
  have h0 : ¬ ((n : Int) < 0) := by omega
  have h1 : ¬ ((100000 : Int) < (n : Int)) := by omega
  go_enter Tryz.func37, Tryz.ntmps37
  go_wp2_with fail
  refine HG.out.mono ?_
  rintro e w1 ⟨ev, k, c, E, rfl, hk, hv, hT, hM, hcs, k6, e1, hEl, hP⟩
  obtain ⟨t, x, rfl⟩ := hv.form
  have hMl := lt_of_some hM
  have HA := hide (As_go hv hk w1.heap.size (.int .i64 0) (w1.alloc (.cells #[.int .i64 0] 107)) ((World.cell?_alloc_past _ _ _ hT.lt).trans hT) (by have := hT.lt; rw [show (w1.alloc (.cells #[.int .i64 0] 107)).heap.size = w1.heap.size + 1 by simp]; omega) ((World.cell?_alloc_at _ _ _ _ (by simp)).trans rfl) (World.frozen?_alloc_new _ _ _ _) (by simp))
  have HM := hide (And.intro hM hcs)
  have HP := hide hP
  have HK := hide (And.intro k6 e1)
  clear hv hT hM hcs hP k6 e1
  go_wp2_with fail
  refine HA.out.mono ?_
  rintro e w2 ⟨rfl, hc, hu⟩
  have hb2 : Below w1.heap.size w1 w2 := ((Below.refl _ w1).alloc (Nat.le_refl _) _).trans (hu.below (by simp) (fun j hj => by omega))
  have m6 := (hb2.cell (p := ⟨M, 6, none⟩) hMl).trans HK.out.1
  have m1 := (hb2.cell (p := ⟨E, 1, none⟩) hEl).trans HK.out.2
  have hM2 := (hb2.block M hMl).trans HM.out.1
  have hcell : ∀ o, o < 12 → ∃ v, w2.drew.cell? ⟨M, o, none⟩ = some v := fun o ho => by
    refine ⟨c[o]'(by rw [HM.out.2]; exact ho), ?_⟩
    show w2.cell? _ = _
    rw [cell_of_block hM2]
    simp [HM.out.2, ho]
  have HST : Hid (Calls Tryz.prog 51 #[.pointer (some ⟨M, 0, none⟩), .agg #[.int .i64 2, .int .i64 er, .int .i64 d, .string ⟨#[]⟩]] w2.drew (RetW (.tuple #[]) (stopW w2.drew M 2 er d ⟨#[]⟩))) := by
    obtain ⟨c1, q1⟩ := hcell 1 (by omega)
    obtain ⟨c2, q2⟩ := hcell 2 (by omega)
    obtain ⟨c3, q3⟩ := hcell 3 (by omega)
    obtain ⟨c4, q4⟩ := hcell 4 (by omega)
    obtain ⟨c5, q5⟩ := hcell 5 (by omega)
    obtain ⟨c6, q6⟩ := hcell 6 (by omega)
    obtain ⟨c8, q8⟩ := hcell 8 (by omega)
    obtain ⟨c9, q9⟩ := hcell 9 (by omega)
    obtain ⟨c10, q10⟩ := hcell 10 (by omega)
    obtain ⟨c11, q11⟩ := hcell 11 (by omega)
    exact stop_raw w2.drew M c1 c2 c3 c4 c5 c6 c8 c9 c10 c11 2 er d ⟨#[]⟩ (by show M < w2.heap.size; have := hb2.size; omega) q1 q2 q3 q4 q5 q6 q8 q9 q10 q11 (fun o => frozen_of_block (w := w2.drew) hM2 o)
  have HF := hide (HP.out w2.drew hb2.drew)
  clear hcell hM2 hb2 hu HA HP HK HM
  go_wp2_with fail
  go_region_law (first | (refine step_wp rfl ?_; go_simp; go_at_call 51; refine HST.out.mono ?_; rintro e w3 ⟨rfl, rfl⟩))
  all_goals
    go_wp2
    go_ret2
    exact ⟨rfl, HF.out⟩
end Go.Proofs.YtlobegpjenabaaaGreatDoor
