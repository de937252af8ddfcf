/- Proved: lathekeep.Reckons of any two ints answers true. Conditions: those of the row (the listed variables of the library hold what the text lays), and no other. -/
import Derived.Test.YtlobegpjenabaaaGreatDoorQPrfRec1
namespace Go.Proofs.YtlobegpjenabaaaGreatDoor.rck
open Go.ChangeShapes Go.WideShapes Go.ChangeAt Go.RowKit Go.Proofs.YtlobegpjenabaaaGreatDoor.rws

set_option maxHeartbeats 4000000 in
theorem said : Rows.ReckonsSaid :=
  OpenClaim.holds_of_cond 5 Tryz.f5 rfl rfl rfl rfl rfl rfl rfl ⟨rfl, rfl, rfl, rfl, rfl⟩ rfl rfl rfl rfl rfl (by as_aux_lemma => kernel_rfl) Tryz.func5 (by as_aux_lemma => kernel_rfl)
    (of_decide_eq_true (by as_aux_lemma => kernel_rfl)) (by unfold Func.isWrapper; first | (rw [if_pos (by decide +kernel)]; kernel_rfl) | (rw [if_neg (by decide +kernel)]; exact ⟨rfl, rfl⟩))
    (fun os started H enc _ F => by rw [OpenClaim.pre_eq_preRow]; exact lifted os started H enc F)

theorem plain (f : FuncId) (fn : Func) (hf : Tryz.pinned.checked.prog.funcNamed "lathe/lathekeep.Reckons" = some f) (hfn : Tryz.pinned.checked.prog.funcs[f]? = some fn) :
    true = Tryz.pinned.checked.prog.looks [] ∧ ∀ (j : Nat) t, fn.params[j]? = some t → Tryz.pinned.checked.prog.wantsStandIn t = false := by
  obtain rfl : f = 5 := Option.some.inj ((show Tryz.prog.funcNamed "lathe/lathekeep.Reckons" = some 5 by kernel_rfl).symm.trans hf) |>.symm
  obtain rfl : fn = Tryz.f5 := (Option.some.inj (Tryz.func5.symm.trans hfn)).symm
  refine ⟨by kernel_rfl, fun j t ht => ?_⟩
  rw [Tryz.params5] at ht
  obtain rfl : t = 3 := by simpa using Array.mem_of_getElem? ht
  exact (show Tryz.prog.wantsStandIn 3 = false by kernel_rfl)
end Go.Proofs.YtlobegpjenabaaaGreatDoor.rck
namespace Go.Proofs.YtlobegpjenabaaaGreatDoor
/-- The card. -/
theorem reckons_holds : Rows.ReckonsCardSaid :=
  Claim7.holds_tied_plain_at .later [] _ _ _ _ rck.said (fun _ h => by cases h) (by kernel_rfl) (fun _ h => by cases h) reckons_row_tie rfl ⟨rfl, rfl⟩ (by kernel_rfl) rfl rck.plain (by kernel_rfl)
end Go.Proofs.YtlobegpjenabaaaGreatDoor
