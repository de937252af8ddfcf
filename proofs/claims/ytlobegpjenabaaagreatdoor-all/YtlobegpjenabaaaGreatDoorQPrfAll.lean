/- Proved: lathelaw.All answers true whatever it is handed of a bulk of at most 1048576. Conditions: those of the row (the listed variables of the library hold what the text lays), the bulk, and no other. -/
import Derived.Test.YtlobegpjenabaaaGreatDoorQPrfAll1
namespace Go.Proofs.YtlobegpjenabaaaGreatDoor.allx
open Go.ChangeShapes Go.WideShapes Go.ChangeAt Go.RowKit Go.Proofs.YtlobegpjenabaaaGreatDoor.rws
set_option maxHeartbeats 4000000 in
theorem closed:joinedFacts Tryz.prog 14 Tryz.f14 (Rows.OpenSpec.upto Rows.allSpec).bare Rows.allUptoRow=true:=by
 unfold joinedFacts;simp only[Bool.and_eq_true]
 repeat' apply And.intro
 all_goals(as_aux_lemma=>kernel_rfl)
set_option maxHeartbeats 4000000 in
theorem said:Rows.AllUptoSaid:=
 OpenClaim.holds_of_cond 14 Tryz.f14 rfl rfl rfl rfl rfl rfl rfl ⟨rfl,rfl,rfl,rfl,rfl⟩ rfl rfl rfl rfl rfl (by as_aux_lemma=>kernel_rfl) Tryz.func14 closed
  (of_decide_eq_true (by as_aux_lemma=>kernel_rfl)) (by unfold Func.isWrapper;first|(rw[if_pos (by decide+kernel)];kernel_rfl)|(rw[if_neg (by decide+kernel)];exact⟨rfl,rfl⟩))
  (fun os started H enc _ F=>by rw[OpenClaim.pre_eq_preRow];exact lifted os started H enc F)
theorem plain (f:FuncId) (fn:Func) (hf:Tryz.pinned.checked.prog.funcNamed "lathe/lathelaw.All"=some f) (hfn:Tryz.pinned.checked.prog.funcs[f]? =some fn):
  true=Tryz.pinned.checked.prog.looks []/\∀(j:Nat) t,fn.params[j]? =some t->Tryz.pinned.checked.prog.wantsStandIn t=false:=by
 obtain rfl:f=14:=Option.some.inj ((show Tryz.prog.funcNamed "lathe/lathelaw.All"=some 14 by kernel_rfl).symm.trans hf)|>.symm;obtain rfl:fn=Tryz.f14:=(Option.some.inj (Tryz.func14.symm.trans hfn)).symm;refine⟨by kernel_rfl,fun j t ht=> ?_⟩;rw[Tryz.params14] at ht;obtain rfl:t=33:=by simpa using Array.mem_of_getElem? ht
 exact(show Tryz.prog.wantsStandIn 33=false by kernel_rfl)
end Go.Proofs.YtlobegpjenabaaaGreatDoor.allx
namespace Go.Proofs.YtlobegpjenabaaaGreatDoor
theorem allUpto_holds:Rows.AllUptoCardSaid:=
 Claim7.holds_tied_plain_at .later [] _ _ _ _ allx.said (fun _ h=>by cases h) (by kernel_rfl) (fun _ h=>by cases h) allUpto_row_tie rfl ⟨rfl,rfl⟩ (by kernel_rfl) rfl allx.plain (by kernel_rfl)
end Go.Proofs.YtlobegpjenabaaaGreatDoor
