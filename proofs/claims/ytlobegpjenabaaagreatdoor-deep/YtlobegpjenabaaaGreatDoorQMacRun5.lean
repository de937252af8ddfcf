/- Run of a machine in memory, where the program fails. -/
import Derived.Test.YtlobegpjenabaaaGreatDoorQMacRun4
import Derived.Test.YtlobegpjenabaaaGreatDoorK35
namespace Go.Proofs.YtlobegpjenabaaaGreatDoor
open Go.RowKit
set_option linter.unusedSimpArgs false
set_option linter.unusedVariables false

theorem ErrT.below {B : Nat} {w w' : World} (h : ErrT w) (hb : Below B w w') (hB : 0 < B) : ErrT w' := (hb.cell (p := ⟨0, 0, none⟩) hB).trans h
/-- A machine that has failed. -/
def FailW (B : Nat) (X : Nat → Prop) (ow : Nat → Option Nat) (w : World) (M b : Nat) (er : Int) (d : Nat) (o : List (List UInt8)) (w' : World) : Prop := ∃ X' ow', ME B w' X' ow' M b 2 er d [] o ∧ Gw X ow w X' ow' w'
theorem run_err {B K : Nat} {w : World} {X : Nat → Prop} {ow : Nat → Option Nat} {M b : Nat} {C : Cd} {s : MS} (h : MR B K w X ow M b C s) (hT : ErrT w) (hB : 0 < B) (n fuel : Nat) (hn : n ≤ 100000) (m : Nat) (er : Int) (d : Nat) (o : List (List UInt8)) (hr : goS C fuel s n 0 = some (m, .err er d o)) :
    Calls Tryz.prog 37 #[.pointer (some ⟨M, 0, none⟩), .int .i64 n] w (RunE w m (FailW B X ow w M b er d o)) := by
  have hg := goOn_go disp_c h n fuel hn (m, .err er d o) hr
  refine run_bad w M n m er d hn _ (hide (hg.mono ?_))
  rintro e w1 ⟨ev, rfl, ⟨k, hk, hv⟩, X', ow', s', hMR, hG, hs, ho⟩
  have hMR0 := hMR
  obtain ⟨mo, mf, val, app, args, out, top, gf, hM, hRS⟩ := hMR
  have hst := hRS.st
  obtain ⟨k0, k1, k2, k3, k4, k5, k6, k7, k8, k9, k10, k11⟩ := mc_cell hM
  cases hq : s'.st with
  | nil => rw [hq] at hs; simp at hs
  | cons en r =>
    rw [hq] at hst hs
    obtain ⟨g, q, gf', got, rfl, hE, _⟩ := hst
    have e1 := cell_of_block hE 1
    simp only [enC, List.getElem?_toArray, List.getElem?_cons_zero, List.getElem?_cons_succ] at e1
    have hd : r.length = d := by simpa using hs
    refine ⟨ev, k, _, g, rfl, hk, hv, hT.below (h.bel hG) hB, hM, rfl, k6, by rw [← hd]; exact e1, lt_of_some hE, fun w2 hb => ?_⟩
    obtain ⟨h1, h2⟩ := hRS.stops hM hb 2 er d []
    rw [ho] at h1
    exact ⟨X', ow', h1, hG.trans h2⟩
end Go.Proofs.YtlobegpjenabaaaGreatDoor
