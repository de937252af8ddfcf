import Derived.Test.YtlobegpjenabaaaGreatDoorQPrfInts
import Derived.Test.YtlobegpjenabaaaGreatDoorQPrfErr
import Derived.Test.YtlobegpjenabaaaGreatDoorT34
namespace Go.Proofs.YtlobegpjenabaaaGreatDoor.runx
open Go.ChangeShapes Go.WideShapes Go.ChangeAt Go.RowKit Go.Proofs.YtlobegpjenabaaaGreatDoor.rws
open Go.ChangeMaps (open_string shut_string)
set_option maxRecDepth 100000 in
theorem contract (H:Type) (enc:TypeId×Value->H) (W:World) (base:Nat) (args:Array Value) (ds gs:List (DataW H)) (before:List MemPlace)
  (hval:∀(j:Nat) t v,Tryz.f4.params[j]? =some t->args[j]? =some v->Value.okWide Tryz.prog W .any base t v)
  (hW:DataW.Whole enc Tryz.prog Tryz.f4.params.toList Rows.runsSpec.vars false W args.toList ds gs before) (hE:Env W) (hR:ErrT W) (hk:Rows.uptoSmall H (ds++gs)=true):
  Calls Tryz.prog 4 args W fun e W'=>∃v,e=.returned v/\Rows.runsSpec.post enc Tryz.prog Tryz.f4 false true false false W args v W':=by
 have hW':=hW;obtain⟨p,q,hA0,hV,rfl,hfz,hnd⟩:=hW;have hA:DataW.TrodAll enc Tryz.prog W 0 (fun _=>true) true Tryz.f4.params.toList args.toList ds p:=hA0;rw[Tryz.params4] at hA hval;obtain⟨v0,vs0,d0,ds0,p0,q0,hargs,rfl,rfl,h0,r0⟩:=trodAll_cons hA;obtain⟨v1,vs1,d1,ds1,p1,q1,rfl,rfl,rfl,h1,r1⟩:=trodAll_cons r0;obtain⟨rfl,rfl,rfl⟩:=trodAll_nil r1;obtain rfl:args= #[v0,v1]:=Array.toList_inj.1 hargs;obtain⟨rfl,rfl⟩:=trodVars_none hV;obtain⟨x0,rfl,rfl,rfl,wx0⟩:=open_string Tryz.underlying9 (hval 0 9 v0 rfl rfl) h0;obtain⟨a1,c1,x1,rfl,hi1,hm1,hb1⟩:=open_atB (hval 1 30 v1 rfl rfl) h1;have hlt:∀x∈(p1++[]),x.block<W.heap.size:=fun x hx=>by have:=hW'.lt x (by simpa using hx);simpa using this
 clear hA0;simp only[List.append_nil] at hW';have hbk:Rows.uptoBulkAll ([.lit (.string x0.data.toList),d1]++[])<=1048576:=of_decide_eq_true hk;simp only[List.append_nil,Rows.uptoBulkAll] at hbk;refine(Runs_go W hE.mx hE.tb hR x0 wx0 a1 c1 x1 (by omega) hi1).mono fun e W' ⟨he,hg⟩=> ?_;subst he;have e1:Rows.runsSpec.fn H ([.lit (.string x0.data.toList),d1]++[])={results:=[.lit (.bool true)],args:=[.lit (.string x0.data.toList),d1]}:=rfl;refine⟨_,rfl,_,_,_,[],([]++(p1++[])),[],hW',?_,?_,?_,hg.frame _,fun h=>by cases h⟩
 ·rw[e1];exact trodAll_cons_mk (shut_bool Tryz.underlying4 _) trodAll_mk0
 ·rw[e1];exact trodAll_cons_mk (shut_string Tryz.underlying9 wx0) (trodAll_cons_mk (Below.trod laidOut (by kernel_rfl) (of_decide_eq_true (by kernel_rfl)) h1 hg (fun x hx=>hlt x (by simp[hx]))) trodAll_mk0)
 ·rw[e1];rfl
theorem laid_met (os:Os):laidMetH Tryz.prog Rows.runsUptoRow.laid ((laidW (World.holding Tryz.prog os wit0)).forCall (fun _ _=>0) ⟨#[],#[Value.string ⟨#[]⟩,Value.slice none 0 0],[]⟩).memory:=
 laidMetH_of_parts (laidMet_of_run' 8 (by kernel_rfl) (by kernel_rfl)) (by kernel_rfl)
theorem reads (os:Os) {H:Type} (enc:TypeId×Value->H):∃places,DataW.whole enc Tryz.prog ((laidW (World.holding Tryz.prog os wit0)).forCall (fun _ _=>0) ⟨#[],#[Value.string ⟨#[]⟩,Value.slice none 0 0],[]⟩).memory Tryz.f4.params.toList Rows.runsSpec.vars false #[Value.string ⟨#[]⟩,Value.slice none 0 0].toList 8=some ([.lit (.string []),.nil],[],places):=
 ⟨[],by kernel_rfl⟩
set_option maxRecDepth 100000 in
theorem lifted (os:Os) (started:os.Started) (H:Type) (enc:TypeId×Value->H) (F:Stop.Interp):
  ReturnsInHanded {} Tryz.checked os 4 .any ((Rows.OpenSpec.upto Rows.runsSpec).preRow enc Tryz.prog Tryz.f4 Rows.runsUptoRow.domain false Rows.runsUptoRow.laid) (((Rows.OpenSpec.upto Rows.runsSpec).at F).post enc Tryz.prog Tryz.f4 false true false false):=by
 obtain⟨places,hx⟩:=reads os enc;refine returnsInHanded_of_row (C:=Tryz.checked) (s:=Rows.OpenSpec.upto Rows.runsSpec) own started (by kernel_rfl) Tryz.func4
  (witness_row_at (enc:=enc) (C:=Tryz.checked) false (laidW (World.holding Tryz.prog os wit0)) #[Value.string ⟨#[]⟩,Value.slice none 0 0] rfl (by kernel_rfl) (by kernel_rfl) (by kernel_rfl)
   (OpenSpec.preRow_of_cond 8 hx (by kernel_rfl) (fun k hk=>by cases hk;kernel_rfl) (by kernel_rfl) (laid_met os))) ?_
 intro W base args ds gs before hval hW _ hcond _ hL hsh _;exact contract H enc W base args ds gs before hval hW (env_of hsh hL) (errT_of hL) (hcond _ rfl)
end Go.Proofs.YtlobegpjenabaaaGreatDoor.runx
