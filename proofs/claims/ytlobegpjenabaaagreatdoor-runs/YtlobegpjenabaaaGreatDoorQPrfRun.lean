/- Proved: lathelaw.Runs answers true whatever it is handed of a bulk of at most 1048576. Conditions: those of the row (the listed variables of the library hold what the text lays), the bulk, and no other. -/
import Derived.Test.YtlobegpjenabaaaGreatDoorQPrfRun1
namespace Go.Proofs.YtlobegpjenabaaaGreatDoor.runx
open Go.ChangeShapes Go.WideShapes Go.ChangeAt Go.RowKit Go.Proofs.YtlobegpjenabaaaGreatDoor.rws
set_option maxHeartbeats 4000000 in
theorem closed:joinedFacts Tryz.prog 4 Tryz.f4 (Rows.OpenSpec.upto Rows.runsSpec).bare Rows.runsUptoRow=true:=by
 unfold joinedFacts;simp only[Bool.and_eq_true]
 repeat' apply And.intro
 all_goals(as_aux_lemma=>kernel_rfl)
set_option maxHeartbeats 4000000 in
theorem said:Rows.RunsUptoSaid:=
 OpenClaim.holds_of_cond 4 Tryz.f4 rfl rfl rfl rfl rfl rfl rfl ⟨rfl,rfl,rfl,rfl,rfl⟩ rfl rfl rfl rfl rfl (by as_aux_lemma=>kernel_rfl) Tryz.func4 closed
  (of_decide_eq_true (by as_aux_lemma=>kernel_rfl)) (by unfold Func.isWrapper;first|(rw[if_pos (by decide+kernel)];kernel_rfl)|(rw[if_neg (by decide+kernel)];exact⟨rfl,rfl⟩))
  (fun os started H enc _ F=>by rw[OpenClaim.pre_eq_preRow];exact lifted os started H enc F)
theorem plain (f:FuncId) (fn:Func) (hf:Tryz.pinned.checked.prog.funcNamed "lathe/lathelaw.Runs"=some f) (hfn:Tryz.pinned.checked.prog.funcs[f]? =some fn):
  true=Tryz.pinned.checked.prog.looks []/\∀(j:Nat) t,fn.params[j]? =some t->Tryz.pinned.checked.prog.wantsStandIn t=false:=by
 obtain rfl:f=4:=Option.some.inj ((show Tryz.prog.funcNamed "lathe/lathelaw.Runs"=some 4 by kernel_rfl).symm.trans hf)|>.symm;obtain rfl:fn=Tryz.f4:=(Option.some.inj (Tryz.func4.symm.trans hfn)).symm;refine⟨by kernel_rfl,fun j t ht=> ?_⟩;rw[Tryz.params4] at ht;have hm:t=30\/t=9:=by have:=Array.mem_of_getElem? ht;simp at this;first|exact this|(rcases this with h|h<;>first|exact .inl h|exact .inr h)
 rcases hm with rfl|rfl
 ·exact(show Tryz.prog.wantsStandIn 30=false by kernel_rfl)
 ·exact(show Tryz.prog.wantsStandIn 9=false by kernel_rfl)
end Go.Proofs.YtlobegpjenabaaaGreatDoor.runx
namespace Go.Proofs.YtlobegpjenabaaaGreatDoor
theorem runsUpto_holds:Rows.RunsUptoCardSaid:=
 Claim7.holds_tied_plain_at .later [] _ _ _ _ runx.said (fun _ h=>by cases h) (by kernel_rfl) (fun _ h=>by cases h) runsUpto_row_tie rfl ⟨rfl,rfl⟩ (by kernel_rfl) rfl runx.plain (by kernel_rfl)
end Go.Proofs.YtlobegpjenabaaaGreatDoor
