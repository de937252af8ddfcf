import Derived.Test.YtlobegpjenabaaaGreatDoorQPrfBase
import Derived.Test.YtlobegpjenabaaaGreatDoorT18
namespace Go.Proofs.YtlobegpjenabaaaGreatDoor.rws
open Go.ChangeShapes Go.WideShapes Go.ChangeAt Go.RowKit
theorem lt_of_cell {w:World} {g o:Nat} {v:Value} (h:w.cell? ⟨g,o,none⟩=some v):g<w.heap.size:=by
 rcases Nat.lt_or_ge g w.heap.size with hlt|hge
 ·exact hlt
 ·exfalso;simp only[World.cell?] at h;rw[Array.getElem?_eq_none hge] at h;cases h
theorem bulk_one {H:Type} (d:DataW H):1<=Rows.uptoBulk d:=by
 cases d with
 |lit l=>cases l<;>simp[Rows.uptoBulk]
 |_=>simp[Rows.uptoBulk]
theorem bulk_len {H:Type} (l:List (DataW H)):l.length<=Rows.uptoBulkAll l:=by
 induction l with
 |nil=>simp
 |cons x r ih=>have:=bulk_one x;simp only[Rows.uptoBulkAll,List.length_cons];omega
set_option maxRecDepth 100000 in
theorem open_atB {H:Type} {enc:TypeId×Value->H} {W:World} {base:Nat} {v:Value} {d:DataW H} {ps:List MemPlace} (hv:Value.okWide Tryz.prog W .any base 30 v) (h:DataW.Trod enc Tryz.prog W 0 (fun _=>true) true 30 v d ps):
  ∃a cap,∃l:List Int,v=.slice a l.length cap/\IntsAt W a l/\l.length<=maxLen/\l.length<=Rows.uptoBulk d:=by
 obtain⟨a0,len,cap,rfl⟩:=okWide_slice Tryz.underlying30 hv;obtain⟨fuel,hf⟩:=h;rcases open_ints Tryz.underlying30 Tryz.underlying3 (by kernel_rfl) hf with⟨hcs,hx⟩|⟨a,len',cap',zs,hcs,_,hl,hm,hz,hx,hcell,hwz⟩
 ·simp[Value.cells] at hcs;obtain⟨rfl,rfl,rfl⟩:=hcs;exact⟨none,0,[],rfl,⟨fun i hi=>absurd hi (by simp),fun k hk=>by cases hk⟩,by simp[maxLen],Nat.zero_le _⟩
 ·simp[Value.cells] at hcs;obtain⟨rfl,rfl,rfl⟩:=hcs;simp only[if_true] at hz;have hlen:(zs.take len).length=len:=by rw[List.length_take];omega
  refine⟨some a,cap,zs.take len,by rw[hlen],⟨fun i hi=> ?_,fun k hk=> ?_⟩,by rw[hlen];omega,?_⟩
  ·rw[hlen] at hi;obtain⟨b,off,rfl,hc⟩:=ints_at hcell (by omega);have hc:=hc i (by omega);refine⟨b,off,rfl,lt_of_cell hc,?_⟩;rw[hc];simp[List.getD,List.getElem?_eq_getElem (show i<zs.length by omega)]
  ·have:=hwz k (List.mem_of_mem_take hk);simpa[Lit.wf,IntKind.min,IntKind.max,IntKind.signed,IntKind.bits] using this
  ·cases hx;have:=bulk_len (lits (H:=H) .i64 (zs.take len));rw[show(lits (H:=H) .i64 (zs.take len)).length=(zs.take len).length from List.length_map ..] at this;simp only[Rows.uptoBulk];omega
set_option maxRecDepth 100000 in
theorem open_at {H:Type} {enc:TypeId×Value->H} {W:World} {base:Nat} {v:Value} {d:DataW H} {ps:List MemPlace} (hv:Value.okWide Tryz.prog W .any base 30 v) (h:DataW.Trod enc Tryz.prog W 0 (fun _=>true) true 30 v d ps):
  ∃a cap,∃l:List Int,v=.slice a l.length cap/\IntsAt W a l/\l.length<=maxLen:=by
 obtain⟨a,cap,l,h1,h2,h3,_⟩:=open_atB hv h;exact⟨a,cap,l,h1,h2,h3⟩
end Go.Proofs.YtlobegpjenabaaaGreatDoor.rws
