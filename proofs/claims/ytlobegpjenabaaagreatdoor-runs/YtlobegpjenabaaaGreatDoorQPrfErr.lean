import Derived.Test.YtlobegpjenabaaaGreatDoorQPrfBase
import Derived.Test.YtlobegpjenabaaaGreatDoorT19
namespace Go.Proofs.YtlobegpjenabaaaGreatDoor.rws
open Go.ChangeShapes Go.WideShapes Go.ChangeAt Go.RowKit
theorem et:Tryz.prog.globalNamed "errors.errorType"=some 0:=by kernel_rfl
theorem rt:(Tryz.prog.cutTypes.find? (·.1== "internal/reflectlite.rtype")).map (·.2)=some 235:=by kernel_rfl
theorem oneRow:((List.range 403).filter fun t=>Tryz.prog.rowNamed t [101,114,114,111,114])=[103]:=by kernel_rfl
theorem tsize:Tryz.prog.types.size=403:=by kernel_rfl
theorem errT_of {W:World} (h:laidMetH Tryz.prog Rows.reckonsRow.laid W):ErrT W:=by
 have h2:=(laidMetH_iff.1 h).2;rw[show(Rows.reckonsRow.laid.filter fun x=>x.2.handleName?.isSome)=[("errors.errorType",Rows.laid_errors_errorType)] from by kernel_rfl] at h2;obtain⟨name,u,ty,e1,e2,e3,e4,e5⟩:=h2 _ (List.mem_singleton.2 rfl);have en:name=[101,114,114,111,114]:=(Option.some.inj e1).symm;subst en;obtain rfl:=Option.some.inj (rt.symm.trans e2);have hm:ty∈(List.range 403).filter fun t=>Tryz.prog.rowNamed t [101,114,114,111,114]:=List.mem_filter.2 ⟨List.mem_range.2 (by rw[<-tsize];exact e3),e4⟩;rw[oneRow] at hm;obtain rfl:=List.mem_singleton.1 hm;have hh:typeHandle Tryz.prog 103=.pointer (some ⟨7,103,none⟩):=by kernel_rfl
 rw[hh] at e5;have:=World.var?_cell et e5 0;unfold ErrT;simpa using this
end Go.Proofs.YtlobegpjenabaaaGreatDoor.rws
