/- Proved: lathekeep.Pieces answers true whatever it is handed. Conditions: those of the row (the listed variables of the library hold what the text lays), and no other. -/
import Derived.Test.YtlobegpjenabaaaGreatDoorL38
namespace Go.Proofs.YtlobegpjenabaaaGreatDoor.piex
open Go.ChangeShapes Go.WideShapes Go.ChangeAt Go.RowKit Go.Proofs.YtlobegpjenabaaaGreatDoor.rws

set_option maxHeartbeats 4000000 in
theorem said : Rows.PiecesSaid :=
  OpenClaim.holds_of_cond 10 Tryz.f10 rfl rfl rfl rfl rfl rfl rfl ⟨rfl, rfl, rfl, rfl, rfl⟩ rfl rfl rfl rfl rfl (by as_aux_lemma => kernel_rfl) Tryz.func10 (by as_aux_lemma => kernel_rfl)
    (of_decide_eq_true (by as_aux_lemma => kernel_rfl)) (by unfold Func.isWrapper; first | (rw [if_pos (by decide +kernel)]; kernel_rfl) | (rw [if_neg (by decide +kernel)]; exact ⟨rfl, rfl⟩))
    (fun os started H enc _ F => by rw [OpenClaim.pre_eq_preRow]; exact lifted os started H enc F)

theorem plain (f : FuncId) (fn : Func) (hf : Tryz.pinned.checked.prog.funcNamed "lathe/lathekeep.Pieces" = some f) (hfn : Tryz.pinned.checked.prog.funcs[f]? = some fn) :
    true = Tryz.pinned.checked.prog.looks [] ∧ ∀ (j : Nat) t, fn.params[j]? = some t → Tryz.pinned.checked.prog.wantsStandIn t = false := by
  obtain rfl : f = 10 := Option.some.inj ((show Tryz.prog.funcNamed "lathe/lathekeep.Pieces" = some 10 by kernel_rfl).symm.trans hf) |>.symm
  obtain rfl : fn = Tryz.f10 := (Option.some.inj (Tryz.func10.symm.trans hfn)).symm
  refine ⟨by kernel_rfl, fun j t ht => ?_⟩
  rw [Tryz.params10] at ht
  have hm : t = 30 ∨ t = 9 := by have := Array.mem_of_getElem? ht; simp at this; first | exact this | (rcases this with h | h <;> first | exact .inl h | exact .inr h)
  rcases hm with rfl | rfl
  · exact (show Tryz.prog.wantsStandIn 30 = false by kernel_rfl)
  · exact (show Tryz.prog.wantsStandIn 9 = false by kernel_rfl)
end Go.Proofs.YtlobegpjenabaaaGreatDoor.piex
namespace Go.Proofs.YtlobegpjenabaaaGreatDoor
/-- The card. -/
theorem pieces_holds : Rows.PiecesCardSaid :=
  Claim7.holds_tied_plain_at .later [] _ _ _ _ piex.said (fun _ h => by cases h) (by kernel_rfl) (fun _ h => by cases h) pieces_row_tie rfl ⟨rfl, rfl⟩ (by kernel_rfl) rfl piex.plain (by kernel_rfl)
end Go.Proofs.YtlobegpjenabaaaGreatDoor
