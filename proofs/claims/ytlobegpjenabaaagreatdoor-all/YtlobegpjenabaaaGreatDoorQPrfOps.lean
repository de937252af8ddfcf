import Derived.Test.YtlobegpjenabaaaGreatDoorQPrfInts
import Derived.Test.YtlobegpjenabaaaGreatDoorT33
import Derived.Deep.Slices
namespace Go.Proofs.YtlobegpjenabaaaGreatDoor.rws
open Go.ChangeShapes Go.WideShapes Go.ChangeAt Go.RowKit
theorem cells_op:Tryz.prog.cellsOf 32=5:=by kernel_rfl
theorem cells_int:Tryz.prog.cellsOf 3=1:=by kernel_rfl
theorem cells_str:Tryz.prog.cellsOf 9=1:=by kernel_rfl
instance:Inhabited Opr:=⟨⟨0,0,0,0,⟨#[]⟩⟩⟩
set_option maxRecDepth 100000 in
theorem open_ops {H:Type} {enc:TypeId×Value->H} {W:World} {base:Nat} {v:Value} {d:DataW H} {ps:List MemPlace} (hv:Value.okWide Tryz.prog W .any base 33 v) (h:DataW.Trod enc Tryz.prog W 0 (fun _=>true) true 33 v d ps):
  ∃a cap,∃l:List Opr,v=.slice a l.length cap/\ScrAt W a l/\l.length<=Rows.uptoBulk d:=by
 obtain⟨a0,len,cap,rfl⟩:=okWide_slice Tryz.underlying33 hv;obtain⟨fuel,hf⟩:=h;rcases Deep.open_slice Tryz.underlying33 hf with⟨hcs,hx⟩|⟨a,len',cap',m,n,D,Pl,hcs,_,hl,hm,hmm,hx,hel⟩
 ·simp[Value.cells] at hcs;obtain⟨rfl,rfl,rfl⟩:=hcs;exact⟨none,0,[],rfl,fun i o hi=>by simp at hi,Nat.zero_le _⟩
 ·simp[Value.cells] at hcs;obtain⟨rfl,rfl,rfl⟩:=hcs;simp only[if_true] at hmm;have each:∀i,i<len->∃o:Opr,o.ok/\∀j u,(OpV o.k o.oc o.om o.n o.s)[j]? =some u->W.cell? (a.add (i *5+j))=some u:=fun i hi=>by
   obtain⟨cs,h1,h2⟩:=hel i (by omega);rw[cells_op] at h1;obtain⟨_,hlen,hcell⟩:=World.cells?_some h1;obtain⟨xs,k,_,_,_,hxl,hf⟩:=DataW.trod_struct Tryz.underlying32 h2
   match xs,hxl,cs,hlen with
   |[y0,y1,y2,y3,y4],_,[v0,v1,v2,v3,v4],_=>
    have g0:=hf 0 _ rfl;have g1:=hf 1 _ rfl;have g2:=hf 2 _ rfl;have g3:=hf 3 _ rfl;have g4:=hf 4 _ rfl;simp[cells_int,cells_str] at g0 g1 g2 g3 g4;obtain⟨k0,e0,_,w0⟩:=DataW.trod_int Tryz.underlying3 g0;obtain⟨k1,e1,_,w1⟩:=DataW.trod_int Tryz.underlying3 g1;obtain⟨k2,e2,_,w2⟩:=DataW.trod_int Tryz.underlying3 g2;obtain⟨k3,e3,_,w3⟩:=DataW.trod_int Tryz.underlying3 g3;obtain⟨s,e4,_,w4⟩:=DataW.trod_string Tryz.underlying9 g4;cases e0;cases e1;cases e2;cases e3;cases e4;refine⟨⟨k0,k1,k2,k3,s⟩,⟨by simpa[Lit.wf,IntKind.min,IntKind.max,IntKind.signed,IntKind.bits] using w1,by simpa[Lit.wf,IntKind.min,IntKind.max,IntKind.signed,IntKind.bits] using w2,w4⟩,fun j u hu=> ?_⟩;have hj:j<5:=(Array.getElem?_eq_some_iff.1 hu).1;have:=hcell j hj;rw[Deep.add_add] at this;rw[this]
    match j,hj with
    |0,_=>exact hu
    |1,_=>exact hu
    |2,_=>exact hu
    |3,_=>exact hu
    |4,_=>exact hu
  obtain⟨q,hq⟩:=Deep.choose_lt each;have hlq:((List.range len).map q).length=len:=by simp
  refine⟨some a,cap,(List.range len).map q,by rw[hlq],fun i o hi=> ?_,?_⟩
  ·have hil:i<len:=by have:=(List.getElem?_eq_some_iff.1 hi).1;omega
   rw[List.getElem?_map,List.getElem?_range hil] at hi;cases hi;obtain⟨hok,hc⟩:=hq i hil;obtain⟨b,off,spot⟩:=a;have hspot:spot=none:=by simpa[Addr.add] using World.cell?_spot ((hq 0 (by omega)).2 0 _ rfl)
   subst hspot;exact⟨hok,b,off,rfl,fun j u hu=>by rw[Nat.add_assoc,<-add_plain];exact hc j u hu⟩
  ·cases hx;have:=bulk_len ((List.range len).map D);rw[List.length_map,List.length_range] at this;rw[hlq];simp only[Rows.uptoBulk];omega
end Go.Proofs.YtlobegpjenabaaaGreatDoor.rws
