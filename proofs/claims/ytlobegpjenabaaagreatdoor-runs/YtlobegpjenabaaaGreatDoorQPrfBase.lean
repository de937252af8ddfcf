import Derived.Test.YtlobegpjenabaaaGreatDoorCards
import Derived.Test.YtlobegpjenabaaaGreatDoorTie
import Derived.Test.YtlobegpjenabaaaGreatDoorT18
import Derived.ProofKit
import Derived.OpenShut
import Derived.Deep.DeepHandedRow
import Derived.Shelf.Vars
import Derived.Lib.LaidTab
import Derived.LaidHandle
import Derived.LaidSub
import Derived.Carry
namespace Go.Proofs.YtlobegpjenabaaaGreatDoor.rws
open Go.ChangeShapes Go.WideShapes Go.ChangeAt Go.RowKit
theorem own:ownKnob Tryz.prog.godebug=none:=by kernel_rfl
theorem max_of {W:World} (h:W.ShapedOpen Tryz.prog):MaxOk W:=
 cell_of_shapedOpen_int (g:=3) (zero:= #[.int .i64 0]) (t:=3) h (of_decide_eq_true (by kernel_rfl)) (by kernel_rfl) rfl (by kernel_rfl) (by kernel_rfl) Tryz.underlying3
theorem tab_of {W:World} (h:laidMetH Tryz.prog Rows.reckonsRow.laid W):Tab W.heap.size W:=by
 have h1:=(laidMetH_iff.1 h).1;have h2:=laidMet.filter (fun x=>x.1== "internal/strconv.uint64pow10") h1;have h3:laidMet Tryz.prog [("internal/strconv.uint64pow10",Lib.tabData .u64 Lib.pow10Tab)] W:=by
  rw[show [("internal/strconv.uint64pow10",(Lib.tabData .u64 Lib.pow10Tab:DataW Unit))]=((Rows.reckonsRow.laid.filter fun x=>x.2.handleName?.isNone).filter fun x=>x.1== "internal/strconv.uint64pow10") by kernel_rfl];exact h2
 exact Lib.tabBelow_of_tabIs (Lib.tabIs_of_head (g:=4) (by kernel_rfl) (by kernel_rfl) Tryz.underlying371 Tryz.underlying338 (by kernel_rfl) (by kernel_rfl) h3)
theorem env_of {W:World} (h:W.ShapedOpen Tryz.prog) (hL:laidMetH Tryz.prog Rows.reckonsRow.laid W):Env W:=⟨max_of h,tab_of hL⟩
theorem laidOut:laidOutB Tryz.prog=true:=by kernel_rfl
def layR (h:Array Obj) (k:Nat) (c:Array Value):Array Obj:=h.modify k fun
 |.cells _ t fr=>.cells c t fr
 |o=>o
def wit0:Input:=⟨#[.cells #[.string ⟨#[118,97,108,117,101,32,111,117,116,32,111,102,32,114,97,110,103,101]⟩] 359,.cells #[.string ⟨#[105,110,118,97,108,105,100,32,115,121,110,116,97,120]⟩] 359],#[],[]⟩
def laidW (w0:World):World:=
 {w0 with heap:=(layR (layR (layR (layR (layR (layR w0.heap
   0 #[.iface 235 (.agg #[.pointer (some ⟨7,103,none⟩)])])
   5 #[.int .u8 0,.int .u8 1,.int .u8 28,.int .u8 2,.int .u8 29,.int .u8 14,.int .u8 24,.int .u8 3,.int .u8 30,.int .u8 22,.int .u8 20,.int .u8 15,.int .u8 25,.int .u8 17,.int .u8 4,.int .u8 8,.int .u8 31,.int .u8 27,.int .u8 13,.int .u8 23,.int .u8 21,.int .u8 19,.int .u8 16,.int .u8 7,.int .u8 26,.int .u8 12,.int .u8 18,.int .u8 6,.int .u8 11,.int .u8 5,.int .u8 10,.int .u8 9])
   6 #[.int .u8 0,.int .u8 1,.int .u8 56,.int .u8 2,.int .u8 57,.int .u8 49,.int .u8 28,.int .u8 3,.int .u8 61,.int .u8 58,.int .u8 42,.int .u8 50,.int .u8 38,.int .u8 29,.int .u8 17,.int .u8 4,.int .u8 62,.int .u8 47,.int .u8 59,.int .u8 36,.int .u8 45,.int .u8 43,.int .u8 51,.int .u8 22,.int .u8 53,.int .u8 39,.int .u8 33,.int .u8 30,.int .u8 24,.int .u8 18,.int .u8 12,.int .u8 5,.int .u8 63,.int .u8 55,.int .u8 48,.int .u8 27,.int .u8 60,.int .u8 41,.int .u8 37,.int .u8 16,.int .u8 46,.int .u8 35,.int .u8 44,.int .u8 21,.int .u8 52,.int .u8 32,.int .u8 23,.int .u8 11,.int .u8 54,.int .u8 26,.int .u8 40,.int .u8 15,.int .u8 34,.int .u8 20,.int .u8 31,.int .u8 10,.int .u8 25,.int .u8 14,.int .u8 19,.int .u8 9,.int .u8 13,.int .u8 8,.int .u8 7,.int .u8 6])
   4 #[.int .u64 1,.int .u64 10,.int .u64 100,.int .u64 1000,.int .u64 10000,.int .u64 100000,.int .u64 1000000,.int .u64 10000000,.int .u64 100000000,.int .u64 1000000000,.int .u64 10000000000,.int .u64 100000000000,.int .u64 1000000000000,.int .u64 10000000000000,.int .u64 100000000000000,.int .u64 1000000000000000,.int .u64 10000000000000000,.int .u64 100000000000000000,.int .u64 1000000000000000000,.int .u64 10000000000000000000])
   2 #[.iface 357 (.pointer (some ⟨12,0,none⟩))])
   1 #[.iface 357 (.pointer (some ⟨13,0,none⟩))])}
end Go.Proofs.YtlobegpjenabaaaGreatDoor.rws
