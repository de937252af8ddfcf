import Derived.Test.YtlobegpjenabaaaGreatDoorT07
import Derived.Shelf.Spec.SlicesInsertGrow
namespace Go.Proofs.YtlobegpjenabaaaGreatDoor
open Go.RowKit Tryz
set_option linter.unusedSimpArgs false
set_option linter.unusedVariables false
set_option linter.defProp false
set_option maxRecDepth 100000
set_option maxHeartbeats 4000000
def n6:=@Array.getElem?_push_size
def so:=@run_callFunc_extern
def K2:=@List.tail_cons
def RE:=@List.length_take
def RL:=@Array.getElem?_eq_getElem
def RY:=@Array.toList_setIfInBounds
def RZ:=@List.getD_cons_succ
def Sz:=@Array.length_toList
def SH:=@frozen_of_row
def SY:=@cell_of_row
def S8:=@run_copy_cells
def S9:=@Nat.mul_one
def Td:=@Bool.or_eq_false_iff
def Tq:=@Addr.add_lit
def Ts:=@Nat.min_def
variable {i vb n g cap:Nat} {S P:a9} {p u:al} {T:bi} {k k2:List E} {es:a7} {w4 w5 w7:aa} {k1:E} {o:Obj}
theorem Nn(A Q:a7)(v:al)(k:Nat):(A++v::Q).take (A.length+1)=A++[v]/\(A++v::Q).drop (A.length+1+k)=Q.drop k:=by
 constructor
 .rw[List.take_append,s9 (by omega),show A.length+1-A.length=1 by omega];rfl
 .rw[List.drop_append,So (by omega),show A.length+1+k-A.length=k+1 by omega];rfl
theorem ed(g:Nat):∀(vs:a7) (o:Nat) (w:aa) (c:bc) (T:bi) (fz:Nat×Nat),w.heap[g]? =some (Obj.cells c T fz)->o+vs.length<=c.size->
  ∃a,(w.setCells g o vs).heap[g]? =some (Obj.cells a T fz)/\a.size=c.size/\a.toList=c.toList.take o++(vs++c.toList.drop (o+vs.length))
 |[],o,w,c,T,fz,h,b=>⟨c,h,rfl,by simp⟩
 |v::r,o,w,c,T,fz,h,b=>by
  have h1:=TH (o:=o) (v:=v) h;obtain⟨a,h2,h3,j⟩:=ed g r (o+1) (w.setCell (dq g o) v) _ T fz h1 (by simp at b ⊢;omega);refine⟨a,h2,by simpa using h3,?_⟩;have l:(c.setIfInBounds o v).toList=c.toList.take o++v::c.toList.drop (o+1):=by
   rw[RY,List.set_eq_take_append_cons_drop,fN (by simp at b ⊢;omega)]
  have d:(c.toList.take o).length=o:=by rw[RE];simp at b ⊢;omega
  obtain⟨e,f⟩:=Nn (c.toList.take o) (c.toList.drop (o+1)) v r.length;rw[d] at e f;rw[j,l,e,f,SV,j1,show o+1+r.length=o+(r.length+1) by omega];simp only[RH,s6,Sg]
theorem iC(g:Nat)(a:i≠g):∀(vs:a7) (o:Nat) (w:aa),(w.setCells g o vs).heap[i]? =w.heap[i]?
 |[],_,_=>rfl
 |v::r,o,w=>by rw[World.setCells,iC g a r,R6 _ _ _ _ a]
theorem aB.setCells{w:aa}(g:Nat)(hS:S g):∀(vs:a7) (o:Nat) (w1:aa),aB S w w1->aB S w (w1.setCells g o vs)
 |[],_,_,h=>h
 |v::r,o,w1,h=>aB.setCells g hS r (o+1) _ (h.setCell (dq g o) v (λ_=>hS))
def qc(w:aa)(B:Nat)(u:al)(es:a7)(p:al)(e:bo)(w':aa):Prop:=
 ∃g a,e=.returned (.slice (eb g) (es.length+1) a)/\w'.ownsRow B 83 1 (.slice (eb g) (es.length+1) a) (es.length+1) (p::es)/\aB (λk=>u.ownBlock=some k) w w'/\(u.ownBlock=some g\/w.heap.size<=g)
theorem kD{w:aa}(a:w.heap[vb]? =some (.cells #[p] T)):∀(j:Nat) u,[p][j]? =some u->w.cell? (((dq vb 0):Addr).add j)=some u:=λj u h=>PL a j u h
theorem insert_nil(w:aa)(B:Nat)(a:a8)(cap vb:Nat)(t:bi)(x:al)(T:bi)(r:w.ownsRow B 83 1 (.slice a 0 cap) 0 [])(hB:B<=w.heap.size)(v:w.heap[vb]? =some (.cells #[.iface t x] T))(e:cap<=maxLen):
  cl 150 #[.slice a 0 cap,Jn 0,.slice (eb vb) 1 1] w (qc w B (.slice a 0 cap) [] (.iface t x)):=by
 obtain⟨G,hi,f,j,l⟩:=sv rK;have m:=ag (ei hi (ei f (ei j l)));have D:=ag v;have A:=ag r;unfold maxLen at e;clear hi f j l v r;go_enter func150,ntmps150;go_wp2_with (at_builtin;refine nl _ rfl (.tmp 23) (.tmp 24) 79 rfl B 83 G .nilIface 1 16 underlying79 m.out.1 m.out.2.1 m.out.2.2.1 m.out.2.2.2 rfl (by decide) _ 0 [] rfl A.out (dq vb 0) 1 1 [.iface t x] rfl rfl (kD D.out) (by intro u s;simp at s;subst s;rfl) (by decide) (by decide) (by omega) hB w.heap.size rfl ?_)
 all_goals
  intro E cap4 w4 c b d q;have C:=ag (T2 (TU (λk=>(Value.slice a 0 cap).ownBlock=some k) w) b (λk F _=>F));have z:=ag c;have y:=ag d;clear c b d;go_wp2;go_ret;exact⟨E,cap4,rfl,z.out,C.out,y.out.imp id (λh=>Nat.le_of_eq h.symm)⟩
theorem zp(w:aa)(B g cap vb:Nat)(es:a7)(cur:bc)(t:bi)(x:al)(T:bi)(hn:0<es.length)(C:w.heap[g]? =some (Obj.cells cur 83 (0,0)))(hB:B<=g)(A:es.length+1<=cap)(E:cap<=maxLen)(F:cur.size=cap)(G:cur.toList.take es.length=es)(O:w.heap[vb]? =some (Obj.cells #[.iface t x] T (0,0)))(z:vb≠g)(h1:∀v∈es,v.oneCell'=true):
  cl 150 #[.slice (eb g) es.length cap,Jn 0,.slice (eb vb) 1 1] w (qc w B (.slice (eb g) es.length cap) es (.iface t x)):=by
 unfold maxLen at E;have f:∀(j:Nat) v,es[j]? =some v->w.cell? ⟨g,j,none⟩=some v:=λj v b=>by
  rw[SY w g j cur _ _ C];rw[<-G,Bk] at b;split at b
  .simpa using b
  .cases b
 have M:∀j,j<cap->(w.cell? ⟨g,j,none⟩).isSome=true:=λj b=>by
  rw[SY w g j cur _ _ C,RL (by omega)];rfl
 have H:∀j,w.frozen? ⟨g,j,none⟩=false:=λj=>SH w g j cur _ C;have N:(prog.info? 83).map (·.size)=some 1:=by
  obtain⟨i0,hi,h6,h2,h7⟩:=sv rK;rw[hi];simp[h2]
 have L:∀lb X,(callFunc 209 #[.slice (eb vb) 1 1,.slice (some ⟨g,1,none⟩) lb X]).run prog w=.ok (.value (.bool false)) w:=λlb X=>by
  rw[so func209 (by kernel_rfl) (by kernel_rfl) (by kernel_rfl) (e:=Extern.SlicesOverlaps.overlaps #[79,79] #[4]) (by kernel_rfl),
   Lib.run_overlaps_apart w 79 4 83 underlying79 1 (λ_=>by kernel_rfl) ⟨vb,0,none⟩ ⟨g,1,none⟩ 1 1 lb X z T 83 1 cap (by simp[World.shape?,O]) (by simp[World.shape?,C,F]) (by omega) (SH w vb 0 _ _ O) (SH w vb 1 _ _ O)]
  rfl
 have l:∀ty s sc,(Builtin.copy_ #[79,79] ty #[.slice (some ⟨g,1,none⟩) es.length s,.slice (eb g) (es.length+1) sc]).run prog w.drew=.ok (goInt es.length) (w.drew.setCells g 1 es):=λty s sc=>
  S8 w.drew _ _ ty 83 g 1 es.length s ⟨g,0,none⟩ (es.length+1) sc es underlying79 N (by simp only[Ts];split<;>omega)
   (λj v b=>by rw[Tq,C4];exact f j v b)
   (λj b=>M _ (by omega)) (λj b=>H _) h1
 obtain⟨c1,m,Z,I⟩:=ed g es 1 w.drew cur _ _ C (by omega);obtain⟨c,d⟩:∃c,c=w.drew.setCells g 1 es:=⟨_,rfl⟩;rw[<-d] at l m;have Q:c.heap[vb]? =some (.cells #[.iface t x] T):=by rw[d,iC g z es 1 w.drew];exact O
 have q:∀(W:aa),(∀a,W.cell? a=c.cell? a)->(∀a,W.frozen? a=c.frozen? a)->∀ty s,(Builtin.copy_ #[79,79] ty #[.slice (eb g) (es.length+1) s,.slice (eb vb) 1 1]).run prog W=.ok (goInt [Value.iface t x].length) (W.setCells g 0 [.iface t x]):=λW D Y ty s=>
  S8 W _ _ ty 83 g 0 (es.length+1) s ⟨vb,0,none⟩ 1 1 [.iface t x] underlying79 N (by simp only[Ts];split<;>simp<;>omega)
   (λj v b=>by rw[D];exact kD Q j v b)
   (λj b=>by rw[D,SY c g _ c1 _ _ m,RL (by simp at b;omega)];rfl) (λj b=>by rw[Y];exact SH c g _ c1 _ m) (by intro u hu;simp at hu;subst hu;rfl)
 obtain⟨c2,J,h0,K⟩:=ed g [.iface t x] 0 c c1 _ _ m (by simp;omega);have HO:=ag (show(c.setCells g 0 [.iface t x]).ownsRow B 83 1 (.slice (eb g) (es.length+1) cap) (es.length+1) (.iface t x::es) from by
  refine⟨by simp,RA ⟨g,cap,c2,rfl,hB,J,A,by unfold maxLen;omega,by omega,?_⟩⟩;rw[K,I];obtain⟨y,hy⟩:∃y,cur.toList.take 1=[y]:=by
   cases h:cur.toList with
   |nil=>
     have:cur.size=0:=by rw[<-Sz,h];rfl
     omega
   |cons y r=>exact⟨y,by simp⟩
  rw[hy];simp)
 have HU:=ag (show aB (λk=>(Value.slice (eb g) es.length cap).ownBlock=some k) w (c.setCells g 0 [.iface t x]) from by
  rw[d];exact aB.setCells (S:=λk=>(Value.slice (eb g) es.length cap).ownBlock=some k) g rfl _ _ _ (aB.setCells (S:=λk=>(Value.slice (eb g) es.length cap).ownBlock=some k) g rfl _ _ _ (aB.drew (TU _ _))))
 have b1:¬((0:Int)=(es.length:Int)):=by omega
 have b2:¬(cap=1):=by omega
 have b3:¬(cap=0):=by omega
 have b4:(1:Int)<=(es.length:Int)+1:=by omega
 have b5:(0:Int)<=(es.length:Int)+1:=by omega
 have h5:IntKind.i64.wrap 1=1:=by decide
 have mixed:prog.follows Departure.mixedOrders=true:=by kernel_rfl
 have V:=ag L;have R:=ag l;have U:=ag q;have h3:=ag d;clear f M H l q d Q J h0 K m Z I G h1 L C O F z hB;go_enter func150,ntmps150;go_wp2_with (simp only[V.out])
 go_region_law_o (refine step_copy_runI rfl _ _ 79 79 rfl (.slice (some ⟨g,1,none⟩) es.length (cap-1)) (.slice (eb g) (es.length+1) cap) (by simp[Act.eval,Act.put]) (by simp[Act.eval,Act.put]) (R.out _ _ _) ?_)
 have h4:=U.out c (λ_=>rfl) (λ_=>rfl) 3 cap;go_wp2;go_ret;exact⟨g,cap,rfl,HO.out,HU.out,RP rfl⟩
theorem zn(w:aa)(B g vb:Nat)(es:a7)(cur:bc)(t:bi)(x:al)(T:bi)(hn:0<es.length)(hl:es.length<=1000)(U:w.heap[g]? =some (Obj.cells cur 83 (0,0)))(hB:B<=w.heap.size)(ha:cur.size=es.length)(R:cur.toList.take es.length=es)(hv:w.heap[vb]? =some (Obj.cells #[.iface t x] T (0,0)))(h1:∀v∈es,v.oneCell'=true):
  cl 150 #[.slice (eb g) es.length es.length,Jn 0,.slice (eb vb) 1 1] w (qc w B (.slice (eb g) es.length es.length) es (.iface t x)):=by
 have X:=ai U;have h3:=ai hv;have s:∀(j:Nat) v,es[j]? =some v->w.cell? ⟨g,j,none⟩=some v:=λj v c=>by
  rw[SY w g j cur _ _ U];rw[<-R,Bk] at c;split at c
  .simpa using c
  .cases c
 obtain⟨i0,J,h4,N,M⟩:=sv rK;have L:(prog.info? 83).map (·.size)=some 1:=by rw[J];simp[N]
 have f:(Builtin.firstCells i0.size 0 (.slice (eb g) 0 es.length)).run prog w.drew=.ok ([]:a7).toArray w.drew:=by
  rw[N];exact run_firstCells_some w.drew 1 0 ⟨g,0,none⟩ 0 es.length [] (by simp) (λj v c=>by cases c)
 obtain⟨G,hG⟩:∃G,G=grownCap w (0+(es.length+1)) es.length 83:=⟨_,rfl⟩;have O:0+(es.length+1)<=G:=by rw[hG];exact grownCap_ge w _ _ _
 have E:G<=maxLen:=by rw[hG];exact grownCap_le_maxLen w _ _ _ (by unfold maxLen;omega)
 have b:=λty=>Lib.run_append_grow_zeros w 79 3 ty 83 i0 .nilIface .i64 .i64 underlying79 underlying3 J h4 (eb g) 0 es.length [] f (es.length+1) (by omega) (by omega) (by omega) (by omega) (by rw[M];omega) (by rw[M];exact growslice_fits (by omega) (by omega));rw[<-hG] at b;rw[C4] at b O;obtain⟨ROW,q⟩:∃ROW:bc,ROW=([]:a7).toArray++Builtin.zeroCells Value.nilIface.cells (es.length+1)++Builtin.zeroCells Value.nilIface.cells (G-(es.length+1)):=⟨_,rfl⟩;rw[<-q] at b;have h9:ROW.size=G:=by
  rw[q];simp[Builtin.zeroCells,Value.cells];omega
 clear q hG;obtain⟨d,m⟩:∃d,d=w.drew.alloc (.cells ROW 83):=⟨_,rfl⟩;rw[<-m] at b;have Q:d.heap[w.heap.size]? =some (.cells ROW 83):=by rw[m];exact n6
 have V:d.heap[g]? =some (.cells cur 83):=by rw[m,tm w.drew _ g X];exact U
 have h2:d.heap[vb]? =some (.cells #[.iface t x] T):=by rw[m,tm w.drew _ vb h3];exact hv
 obtain⟨H,C⟩:∃H,H=w.heap.size:=⟨_,rfl⟩;rw[<-C] at b Q hB X h3;have b:∀ty,(Builtin.append_ #[79,3] ty #[.slice (eb g) 0 es.length,Jn ((es.length:Int)+1)]).run prog w=.ok (.slice (eb H) (es.length+1) G) d:=λty=>by
  have h:=b ty;rw[Int.natCast_add] at h;exact h
 obtain⟨c1,A,hb,Y⟩:=ed H [.iface t x] 0 d ROW _ _ Q (by simp;omega);have y:∀ty,(Builtin.copy_ #[79,79] ty #[.slice (eb H) (es.length+1) G,.slice (eb vb) 1 1]).run prog d=.ok (goInt [Value.iface t x].length) (d.setCells H 0 [.iface t x]):=λty=>
  S8 d _ _ ty 83 H 0 (es.length+1) G ⟨vb,0,none⟩ 1 1 [.iface t x] underlying79 L (by simp only[Ts];split<;>simp<;>omega)
   (λj v c=>kD h2 j v c)
   (λj c=>by rw[SY d H _ ROW _ _ Q,RL (by simp at c;omega)];rfl) (λj c=>SH d H _ ROW _ Q) (by intro u hu;simp at hu;subst hu;rfl)
 obtain⟨l,D⟩:∃l,l=d.setCells H 0 [.iface t x]:=⟨_,rfl⟩;rw[<-D] at y A;have F:l.heap[g]? =some (.cells cur 83):=by rw[D,iC H (by omega) _ 0 d];exact V
 have e:∀(j:Nat) v,es[j]? =some v->l.cell? ⟨g,j,none⟩=some v:=λj v c=>by
  rw[xo (w:=w) (a:=⟨g,j,none⟩) (by show l.heap[g]? =w.heap[g]?;rw[F,U])];exact s j v c
 have z:∀ty,(Builtin.copy_ #[79,79] ty #[.slice (some ⟨H,1,none⟩) es.length (G-1),.slice (eb g) es.length es.length]).run prog l.drew=.ok (goInt es.length) (l.drew.setCells H 1 es):=λty=>
  S8 l.drew _ _ ty 83 H 1 es.length (G-1) ⟨g,0,none⟩ es.length es.length es underlying79 L (by simp only[Ts];split<;>omega)
   (λj v c=>by rw[Tq,C4];exact e j v c)
   (λj c=>by show(l.cell? _).isSome=true;rw[SY l H _ c1 _ _ A,RL (by omega)];rfl) (λj c=>SH l H _ c1 _ A) h1
 obtain⟨c2,K,hc,Z⟩:=ed H es 1 l.drew c1 _ _ A (by omega);obtain⟨W2,I⟩:∃W2,W2=l.drew.setCells H 1 es:=⟨_,rfl⟩;rw[<-I] at z K;have HO:=ag (show W2.ownsRow B 83 1 (.slice (eb H) (es.length+1) G) (es.length+1) (.iface t x::es) from by
  refine⟨by simp,RA ⟨H,G,c2,rfl,hB,K,O,E,by omega,?_⟩⟩;rw[Z,Y];simp)
 have HU:=ag (show aB (λk=>(Value.slice (eb g) es.length es.length).ownBlock=some k) w W2 from by
  have h0:∀(W:aa) (vs:a7) (o:Nat),aB (λk=>(Value.slice (eb g) es.length es.length).ownBlock=some k) w W->aB (λk=>(Value.slice (eb g) es.length es.length).ownBlock=some k) w (W.setCells H o vs):=by
   intro W vs;induction vs generalizing W with
   |nil=>intro o h;exact h
   |cons v r ih=>intro o h;exact ih _ _ (h.setCell ⟨H,o,none⟩ v (λhlt=>absurd hlt (by rw[C];exact Nat.lt_irrefl _)))
  rw[I,D,m];exact h0 _ _ _ (aB.drew (h0 _ _ _ ((aB.drew (TU _ _)).alloc _))))
 unfold maxLen at E;have b1:¬((0:Int)=(es.length:Int)):=by omega
 have b2:¬(G=1):=by omega
 have b3:¬(G=0):=by omega
 have b6:¬(es.length=0):=by omega
 have b4:(1:Int)<=(es.length:Int)+1:=by omega
 have b5:(0:Int)<=(es.length:Int)+1:=by omega
 have b7:(es.length:Int)<(es.length:Int)+1:=by omega
 have he:IntKind.i64.wrap 1=1:=by decide
 have mixed:prog.follows Departure.mixedOrders=true:=by kernel_rfl
 have h8:=ag b;have h5:=ag y;have h6:=ag z;have h7:=ag C;clear s e y z m D I h2 V F K hc Z A hb Y R h1 U hv ha hB b f C Q h9 J h4 N M L;have hd:=h5.out 3;go_enter func150,ntmps150;go_wp2_with (at_builtin;refine Lib.wpList_append_run _ rfl _ _ _ _ rfl _ _ rfl rfl _ _ (h8.out _) ?_)
 go_region_law_o (refine step_copy_runI rfl _ _ 79 79 rfl (.slice (some ⟨H,1,none⟩) es.length (G-1)) (.slice (eb g) es.length es.length) (by simp[Act.eval,Act.put]) (by simp[Act.eval,Act.put]) (h6.out _) ?_)
 go_wp2;go_ret;exact⟨H,G,rfl,HO.out,HU.out,RA (Nat.le_of_eq h7.out.symm)⟩
theorem B3(w:aa)(B vb:Nat)(u:al)(es:a7)(t:bi)(x:al)(T:bi)(f:w.ownsRow B 83 1 u es.length es)(hB:B<=w.heap.size)(z:es.length<=1000)(l:w.heap[vb]? =some (Obj.cells #[.iface t x] T (0,0)))(r:¬u.ownBlock=some vb)(h1:∀v∈es,v.oneCell'=true):
  cl 150 #[u,Jn 0,.slice (eb vb) 1 1] w (qc w B u es (.iface t x)):=by
 have j:=f;obtain⟨A,f⟩:=f;rcases Sd es.length with s|hp
 .have y:es=[]:=ze.1 s;subst y;rcases f with⟨rfl,_⟩|⟨g,cap,cur,rfl,d,q,m,c,a,b⟩
  .exact insert_nil w B none 0 vb t x T j hB l (by unfold maxLen;omega)
  .exact insert_nil w B _ cap vb t x T j hB l c
 .rcases f with⟨rfl,C⟩|⟨g,cap,cur,rfl,d,q,m,c,a,b⟩
  .omega
  .rw[S9] at a b;by_cases e:cap=es.length
   .subst e;exact zn w B g vb es cur t x T hp z q hB a b l h1
   .exact zp w B g cap vb es cur t x T hp q d (by omega) c a b l (λh=>r (by rw[h];rfl)) h1
theorem cH.up{w:aa}:∀(vs:a7) (ds:List D),cH w n vs ds->cH w (n+1) vs ds
 |[],[],_=>trivial
 |[],_::_,h=>h.elim
 |_::_,[],h=>h.elim
 |v::vs,d::ds,h=>⟨IV.up n v d h.1,cH.up vs ds h.2⟩
theorem ii.one{w:aa}(h:ii w P k es):∀v∈es,v.oneCell'=true:=by
 induction es generalizing k with
 |nil=>intro v c;cases c
 |cons e r d=>
  cases h with
  |cons a b=>
   intro v c;rcases RD.1 c with rfl|c
   .obtain⟨t,x,rfl⟩:=a.form;rfl
   .exact d b v c
theorem Mn{w:aa}(l:Below w.heap.size w w4)(hp:EV w4 (λg=>w.heap.size<=g) k1 p)(e:Below w4.heap.size w4 w5)(v:w5.ownsRow w4.heap.size 83 1 u es.length es)(z:ii w5 (λg=>w4.heap.size<=g/\¬u.ownBlock=some g) k2 es)(f:w7.ownsRow w4.heap.size 83 1 (.slice (eb g) (es.length+1) cap) (es.length+1) (p::es))(b:aB (λk=>u.ownBlock=some k) (w5.alloc o) w7)(A:u.ownBlock=some g\/(w5.alloc o).heap.size<=g):
  EV w7 (λg=>w.heap.size<=g) (.apply (k1::k2)) (.iface 273 (.agg #[.slice (eb g) (es.length+1) cap]))/\Below w.heap.size w w7:=by
 have t:=l.size;have D:=e.size;have kp5:aC 205 w4 w5:=TX e;have kp7:aC 205 w5 w7:=λx c s=>b.at (by rw[tm _ _ _ (ai s)];exact s) λq=>by
  rcases v.2 with⟨y,_⟩|⟨g,cap,E,y,A,B,r⟩
  .rw[y] at q;cases q
  .rw[y] at q;cases q;rw[B] at s;cases s
 have m:∀(j:Nat) (ob:Obj),w5.heap[j]? =some ob->¬u.ownBlock=some j->w7.heap[j]? =some ob:=λj ob d C=>
  b.at (by rw[tm _ _ _ (ai d)];exact d) C
 refine⟨EV.apply (es:=p::es) ⟨?_,?_⟩ (by simp) (ii.cons ?_ ?_),?_⟩
 .exact ba f (kc _)
 .intro j d;have:=(ar f d).1;omega
 .refine hp.imp (kp5.trans kp7) λj ob d a=>⟨m j ob (by rw[e.block j (ai a)];exact a) (λh=> ?_),d⟩;have:=(ar v h).1;have:=ai a;omega
 .exact z.imp kp7 λj ob d a=>⟨m j ob a d.2,by omega⟩
 .have h1:Below w.heap.size w w5:=l.trans (e.mono t);have h2:Below w.heap.size w (w5.alloc o):=h1.alloc h1.size o;exact h2.trans (b.below h2.size (by intro j d;have:=(ar v d).1;omega))
theorem OT(n:Nat)(ht:qd (n+1))(x:al)(vs:a7)(d:D)(ds:List D)(v:al)(w:aa)(C:bU w v (x::vs))(y:cH w (n+1) (x::vs) (d::ds))(hl:(d::ds).length<=1000)(r:Bool)(HR:Hid (r=(aX d&&((aE d).all nK&&((bn [] ((aE d).map jF)&&(decide (0<ds.length)&&ds.all (aG (n+1))))&&((aE d).map jG).all (aG (n+1))))))):
  cl 95 #[v] w (aW w (λe=>rV (aN (n+1)) (d::ds)=some e) r):=by
 have hm:=y.2.length;have hid:=y.1.len;have h4:=ag y;have h9:=ag C;obtain⟨a,cap,rfl,hI,hJ,hd⟩:=dx C y;obtain⟨g,hO,rfl,hg,t1,x1,L,c0⟩:=hd 0 (by simp);rw[rn] at c0;have hc:=ag (show IV w (n+1) (.iface t1 x1) d from L);clear hd C y L;unfold maxLen at hJ;simp only[j1] at *;have Q:=ag ht;have h6:=ag hm;clear ht;have b0:(((ds.length:Int)+1)==0)=false:=by rw[j2];omega
 go_enter func95,ntmps95;go_wp2_with fail;refine(gt n d (.iface t1 x1) _ hc.out).mono ?_;rintro e w2 ⟨u,us,rfl,hx,hA,hb⟩;have HB:=ag hb;obtain⟨N,W⟩:∃N,N=aX d:=⟨_,rfl⟩;rw[<-W];have O:=ag W;have R:=ag (J9 n us (aE d) u w2 (bT.q hx) (cH.up _ _ hA) hid ((aE d).all nK) rfl);clear hx hA hb c0 W hc;obtain⟨sp,X⟩:∃sp,sp=(aE d).all nK:=⟨_,rfl⟩;rw[<-X] at R;have HS:=ag X;clear X;go_wp2_with fail;refine R.out.mono ?_;rintro e w3 ⟨⟨u2,u3,xs,ys,rfl,hu,hw,F,hq⟩,hf⟩;have l:=ag (HB.out.trans (hf.mono HB.out.size));obtain⟨nd,Z,hn,hB,M,A,f⟩:∃nd Z,cH w3 n xs nd/\cH w3 n ys Z/\nd.length<=1000/\Z.length<=1000/\(sp=true->nd=(aE d).map jF/\Z=(aE d).map jG):=by
  cases sp with
  |true=>exact⟨_,_,(F rfl).1,(F rfl).2,by simpa using hid,by simpa using hid,λ_=>⟨rfl,rfl⟩⟩
  |false=>obtain⟨rfl,rfl⟩:=hq rfl;exact⟨[],[],trivial,trivial,by simp,by simp,λh=>by cases h⟩
 have hF:=ag f;obtain⟨rp,E⟩:∃rp,rp=(bn [] nd&&(decide (0<ds.length)&&ds.all (aG (n+1)))):=⟨_,rfl⟩;have hH:=ag E;have HP:=ag (λ(tl:al) (hN:bU w3 tl vs)=>jW (n+1) n Q.out xs vs nd ds u2 tl w3 (bT.q hu) hn M hN (cH.ak (TX l.out) _ _ _ h4.out.2) (by omega) rp E);have HQ:=ag (h9.out.below l.out);obtain⟨re,I⟩:∃re,re=Z.all (aG (n+1)):=⟨_,rfl⟩;have hG:=ag I;have HE:=ag (λ(w4:aa) (hb:Below w3.heap.size w3 w4)=>iJ (n+1) Q.out ys Z u3 w4 ((bT.q hw).below hb) (cH.up _ _ (cH.ak (TX hb) _ _ _ hB)) A re I);have b:=ag (show r=(N&&(sp&&(rp&&re))) from by
  rw[HR.out,<-O.out,<-HS.out];cases N with
  |false=>rfl
  |true=>
   cases sp with
   |false=>rfl
   |true=>rw[E,I,(f rfl).1,(f rfl).2])
 have HW:=ag (show N=true->sp=true->∀p es,eH (aN (n+1)) nd ds=some p->bF (aN (n+1)) Z=some es->rV (aN (n+1)) (d::ds)=some (.apply (p::es)) from λh1 h2 p es hp he=>by
  rw[(f h2).1] at hp;rw[(f h2).2] at he;rw[rV,<-O.out,<-HS.out,h1,h2,fN (by decide),hp,he])
 have hE:=ag A;have h7:=ag (show ds.length=0->rp=false from λh=>by rw[E,h];simp);clear hu hw F hq hf hn hB M A f E I HR O HS R h4 h9 Q hid hm hH hG hF;by_cases hh:cap=1
 .have hz:vs=[]:=ze.1 (by have:=h6.out;omega);have Y:ds.length=0:=by omega
  have HZ:=ag hz;rw[Y];clear hz hl hI;subst hh;go_wp2_with fail;refine(HP.out _ (by rw[HZ.out];exact bU.none _ _)).mono ?_;have hL:=h7.out Y;subst hL;have B:r=false:=by rw[b.out];cases N<;>cases sp<;>rfl
  subst B;rintro e w4 ⟨⟨u4,rfl,J⟩,t⟩;have s:=ag t;clear J t HP HQ b h7 Y;go_wp2_with fail;refine(HE.out _ s.out).mono ?_;rintro e w5 ⟨⟨u5,rfl,U,G⟩,m⟩;have c:=ag (l.out.trans (s.out.mono l.out.size));have j:=ag (c.out.trans (m.mono c.out.size));clear U G m HE;cases N with
  |false=>
   go_wp2;go_ret2;exact⟨⟨_,rfl,λh=>by cases h⟩,j.out⟩
  |true=>
  cases sp with
  |false=>
   go_wp2;go_ret2;exact⟨⟨_,rfl,λh=>by cases h⟩,j.out⟩
  |true=>
   go_wp2;go_ret2;exact⟨⟨_,rfl,λh=>by cases h⟩,j.out⟩
 .go_wp2_with fail;refine(HP.out _ (bU.tail HQ.out h6.out)).mono ?_;rintro e w4 ⟨⟨u4,rfl,J⟩,t⟩;have ha:=ag J;have s:=ag t;clear J t HP HQ;go_wp2_with fail;refine(HE.out _ s.out).mono ?_;rintro e w5 ⟨⟨u5,rfl,U,G⟩,m⟩;have h0:=ag G;have c:=ag (l.out.trans (s.out.mono l.out.size));have h3:=ag m;have j:=ag (c.out.trans (m.mono c.out.size));clear U G m HE;cases N with
  |false=>
   have B:r=false:=by rw[b.out];rfl
   subst B;clear b;go_wp2;go_ret2;exact⟨⟨_,rfl,λh=>by cases h⟩,j.out⟩
  |true=>
  cases sp with
  |false=>
   have B:r=false:=by rw[b.out];rfl
   subst B;clear b;go_wp2;go_ret2;exact⟨⟨_,rfl,λh=>by cases h⟩,j.out⟩
  |true=>
  cases rp with
  |false=>
   have B:r=false:=by rw[b.out];rfl
   subst B;clear b;go_wp2;go_ret2;exact⟨⟨_,rfl,λh=>by cases h⟩,j.out⟩
  |true=>
  cases re with
  |false=>
   have B:r=false:=by rw[b.out];rfl
   subst B;clear b;go_wp2;go_ret2;exact⟨⟨_,rfl,λh=>by cases h⟩,j.out⟩
  |true=>
   have B:r=true:=by rw[b.out];rfl
   subst B;obtain⟨k4,hj,z⟩:=ha.out rfl;obtain⟨es,k5,hk,hK,H,V⟩:=h0.out rfl;obtain⟨t4,x4,rfl⟩:=z.form;have hM:=l.out.size;have HX:=ag (z.imp (P':=λg=>w.heap.size<=g) (TY _) λg o hg ho=>⟨ho,ku hM hg⟩);have hD:=ag (HW.out rfl rfl _ _ hj hk);have h8:=ag H;have hC:=ag V;have h5:=ag (λ(o:Obj) (hv:(w5.alloc o).heap[w5.heap.size]? =some (.cells #[.iface t4 x4] 83))=>B3 (w5.alloc o) w4.heap.size w5.heap.size u5 es t4 x4 83 (H.alloc _) (by have:=h3.out.size;simp;omega) (by have:=hE.out;omega) hv (λh=>by have:=(ar H h).2;omega) (V.one));clear b ha h0 hj hk z H V hK;obtain⟨a5,cap5,rfl,_,_,_⟩:=ay h8.out;go_wp2_with fail;refine(h5.out _ n6).mono ?_;rintro e w7 ⟨g7,cap7,rfl,hs,hy,hi⟩;have K:=ag (Mn c.out HX.out h3.out h8.out hC.out hs hy hi);clear hs hy hi;go_wp2;go_ret2;exact⟨⟨_,rfl,λ_=>⟨_,hD.out,K.out.1⟩⟩,K.out.2⟩
theorem uf(f:D->Bool):∀(l:List D) (seen:List au),jg f seen l=(l.all nK&&(l.map jG).all f)
 |[],_=>rfl
 |b::r,seen=>by
  rw[jg,uf f r seen];simp only[R7,v6,nK,jG];cases aX b<;>cases decide ((aE b).length=2)<;>cases f ((aE b).getD 1 (ju []))<;>simp
theorem Mm(n:Nat)(l:qd n)(vs:a7)(ds:List D)(v:al)(w:aa)(f:bU w v vs)(c:cH w n vs ds)(j:ds.length<=1000)(r:Bool)(q:Hid (r=(decide (2<=ds.length)&&aX (ds.getD 0 (num 0))&&jg (aG n) [] (aE (ds.getD 0 (num 0)))&&bn [] ((aE (ds.getD 0 (num 0))).map λb=>(aE b).getD 0 (num 0))&&(ds.drop 1).all (aG n)))):
  cl 95 #[v] w (aW w (λe=>rV (aN n) ds=some e) r):=by
 match vs,ds,c with
 |[],[],_=>
  obtain⟨a,cap,rfl,_⟩:=f;have m:r=false:=by rw[q.out];rfl
  subst m;exact(Mp a cap w).mono λe w' h=>h.mono (λ_ s=>s.elim)
 |x::vs,d::ds,c=>
  cases n with
  |zero=>exact c.1.elim
  |succ n=>
   have m:r=(aX d&&((aE d).all nK&&((bn [] ((aE d).map jF)&&(decide (0<ds.length)&&ds.all (aG (n+1))))&&((aE d).map jG).all (aG (n+1))))):=by
    rw[q.out,uf];have:decide (2<=(d::ds).length)=decide (0<ds.length):=by simp;omega
    rw[this];simp only[Sc,yd,RQ];show(_&&bn [] ((aE d).map jF)&&_)=_;cases decide (0<ds.length)<;>cases aX d<;>cases (aE d).all nK<;>cases ((aE d).map jG).all (aG (n+1))<;>cases bn [] ((aE d).map jF)<;>cases ds.all (aG (n+1))<;>rfl
   exact OT n l x vs d ds v w f c j r m
theorem d9(z:ao)(F:Nat)(A:(z=⟨#[113,117,111,116,101]⟩/\F=89)\/(z=⟨#[105,102]⟩/\F=90)\/(z=⟨#[100,101,102,105,110,101]⟩/\F=91)\/(z=⟨#[115,101,116,33]⟩/\F=92)\/(z=⟨#[108,97,109,98,100,97]⟩/\F=93)\/(z=⟨#[98,101,103,105,110]⟩/\F=94)\/(z=⟨#[108,101,116]⟩/\F=95))(vs:a7)(v:al)(w:aa)(m:E->Prop)(r:Bool)(d:bU w v (.iface 134 (.string z)::vs))(h:vs.length<=1000)(hf:∀tl,bU w tl vs->cl F #[tl] w (aW w m r)):
  cl 57 #[v] w (aW w m r):=by
 rcases A with⟨rfl,rfl⟩|⟨rfl,rfl⟩|⟨rfl,rfl⟩|⟨rfl,rfl⟩|⟨rfl,rfl⟩|⟨rfl,rfl⟩|⟨rfl,rfl⟩
 all_goals
  have s:=ag hf;have t:=ag d;obtain⟨a,cap,rfl,l,q,c⟩:=d;obtain⟨g,B,rfl,C,c⟩:=c (by simp);have c0:=c 0 _ rfl;rw[rn] at c0;have y:=qP;unfold maxLen at q;simp only[j1] at *;clear c hf;go_enter func57,ntmps57;by_cases f:cap=1
  .have j:vs.length=0:=by omega
   have x:=ag (ze.1 j);rw[j];subst f;clear l h;go_wp2_with fail;refine(s.out _ (by rw[x.out];exact bU.none _ _)).mono ?_;intro e w3 h3;have b:=ag h3;obtain⟨⟨u3,rfl,_⟩,_⟩:=h3;go_wp2;go_ret2;exact b.out
  .go_wp2_with fail;refine(s.out _ (bU.tail t.out rfl)).mono ?_;intro e w3 h3;have b:=ag h3;obtain⟨⟨u3,rfl,_⟩,_⟩:=h3;go_wp2;go_ret2;exact b.out
theorem zX(s:ao)(h:l7 s.data.toList=false)(vs:a7)(v:al)(w:aa)(m:E->Prop)(r:Bool)(d:bU w v (.iface 134 (.string s)::vs))(hf:cl 96 #[v] w (aW w m r)):
  cl 57 #[v] w (aW w m r):=by
 have j:=ag hf;rw[B8] at h;simp only[Td] at h;obtain⟨k1,k2,k3,y,z,k6,A⟩:=h;obtain⟨a,cap,rfl,l,f,b⟩:=d;obtain⟨g,t,rfl,x,b⟩:=b (by simp);have c0:=b 0 _ rfl;rw[rn] at c0;have q:=qP;unfold maxLen at f;simp only[j1] at *;clear b hf;go_enter func57,ntmps57;go_wp2_with fail;refine j.out.mono ?_;intro e w3 h3;have c:=ag h3;obtain⟨⟨u3,rfl,_⟩,_⟩:=h3;go_wp2;go_ret2;exact c.out
theorem Ct(x:al)(vs:a7)(v:al)(w:aa)(m:E->Prop)(r:Bool)(d:bU w v (.iface 130 x::vs))(hf:cl 96 #[v] w (aW w m r)):
  cl 57 #[v] w (aW w m r):=by
 have h:=ag hf;obtain⟨a,cap,rfl,j,f,b⟩:=d;obtain⟨g,q,rfl,s,b⟩:=b (by simp);have c0:=b 0 _ rfl;rw[rn] at c0;have l:=qQ;unfold maxLen at f;simp only[j1] at *;clear b hf;go_enter func57,ntmps57;go_wp2_with fail;refine h.out.mono ?_;intro e w3 h3;have c:=ag h3;obtain⟨⟨u3,rfl,_⟩,_⟩:=h3;go_wp2;go_ret2;exact c.out
theorem zW(x:al)(vs:a7)(v:al)(w:aa)(m:E->Prop)(r:Bool)(d:bU w v (.iface 131 x::vs))(hf:cl 96 #[v] w (aW w m r)):
  cl 57 #[v] w (aW w m r):=by
 have h:=ag hf;obtain⟨a,cap,rfl,j,f,b⟩:=d;obtain⟨g,q,rfl,s,b⟩:=b (by simp);have c0:=b 0 _ rfl;rw[rn] at c0;have l:=o9;unfold maxLen at f;simp only[j1] at *;clear b hf;go_enter func57,ntmps57;go_wp2_with fail;refine h.out.mono ?_;intro e w3 h3;have c:=ag h3;obtain⟨⟨u3,rfl,_⟩,_⟩:=h3;go_wp2;go_ret2;exact c.out
theorem wS(x:al)(vs:a7)(v:al)(w:aa)(m:E->Prop)(r:Bool)(d:bU w v (.iface 207 x::vs))(hf:cl 96 #[v] w (aW w m r)):
  cl 57 #[v] w (aW w m r):=by
 have h:=ag hf;obtain⟨a,cap,rfl,j,f,b⟩:=d;obtain⟨g,q,rfl,s,b⟩:=b (by simp);have c0:=b 0 _ rfl;rw[rn] at c0;have l:=jE;unfold maxLen at f;simp only[j1] at *;clear b hf;go_enter func57,ntmps57;go_wp2_with fail;refine h.out.mono ?_;intro e w3 h3;have c:=ag h3;obtain⟨⟨u3,rfl,_⟩,_⟩:=h3;go_wp2;go_ret2;exact c.out
theorem pz(x:al)(vs:a7)(v:al)(w:aa)(m:E->Prop)(r:Bool)(d:bU w v (.iface 136 x::vs))(hf:cl 96 #[v] w (aW w m r)):
  cl 57 #[v] w (aW w m r):=by
 have h:=ag hf;obtain⟨a,cap,rfl,j,f,b⟩:=d;obtain⟨g,q,rfl,s,b⟩:=b (by simp);have c0:=b 0 _ rfl;rw[rn] at c0;have l:=kz;unfold maxLen at f;simp only[j1] at *;clear b hf;go_enter func57,ntmps57;go_wp2_with fail;refine h.out.mono ?_;intro e w3 h3;have c:=ag h3;obtain⟨⟨u3,rfl,_⟩,_⟩:=h3;go_wp2;go_ret2;exact c.out
theorem rH(ds:List D):aO (.lit (.string [113,117,111,116,101])::ds)=[113,117,111,116,101]:=by
 rw[aO,fN (by decide)]
theorem pm(ds:List D):aO (.lit (.string [105,102])::ds)=[105,102]:=by
 rw[aO,fN (by decide)]
theorem po(ds:List D):aO (.lit (.string [100,101,102,105,110,101])::ds)=[100,101,102,105,110,101]:=by
 rw[aO,fN (by decide)]
theorem zh(ds:List D):aO (.lit (.string [115,101,116,33])::ds)=[115,101,116,33]:=by
 rw[aO,fN (by decide)]
theorem pq(ds:List D):aO (.lit (.string [108,97,109,98,100,97])::ds)=[108,97,109,98,100,97]:=by
 rw[aO,fN (by decide)]
theorem lQ(ds:List D):aO (.lit (.string [98,101,103,105,110])::ds)=[98,101,103,105,110]:=by
 rw[aO,fN (by decide)]
theorem zg(ds:List D):aO (.lit (.string [108,101,116])::ds)=[108,101,116]:=by
 rw[aO,fN (by decide)]
theorem kF(a b:Nat):decide (a+1=b+1)=decide (a=b):=by simp
theorem kE(a b:Nat):decide (b+1<=a+1)=decide (b<=a):=by simp
theorem yU(n:Nat)(ds:List D):aG (n+1) (.agg (.lit (.string [113,117,111,116,101])::ds))=decide (ds.length=1):=by
 rw[aG,rH,fN rfl,j1,kF]
theorem ws(n:Nat)(ds:List D):aG (n+1) (.agg (.lit (.string [105,102])::ds))=((decide (ds.length=2)||decide (ds.length=3))&&ds.all (aG n)):=by
 rw[aG,pm,fb (by decide),fN rfl,j1,kF,kF,K2]
theorem EU(n:Nat)(ds:List D):aG (n+1) (.agg (.lit (.string [115,101,116,33])::ds))=(decide (ds.length=2)&&cI (ds.getD 0 (ju []))&&(ds.drop 1).all (aG n)):=by
 rw[aG,zh,fb (by decide),fb (by decide),fN rfl,j1,kF,RZ,yd]
theorem wu(n:Nat)(ds:List D):aG (n+1) (.agg (.lit (.string [108,97,109,98,100,97])::ds))=(decide (2<=ds.length)&&aX (ds.getD 0 (num 0))&&bn [] (aE (ds.getD 0 (num 0)))&&(ds.drop 1).all (aG n)):=by
 rw[aG,pq,fb (by decide),fb (by decide),fb (by decide),fN rfl,j1,kE,RZ,yd]
theorem rD(n:Nat)(ds:List D):aG (n+1) (.agg (.lit (.string [98,101,103,105,110])::ds))=(decide (0<ds.length)&&ds.all (aG n)):=by
 rw[aG,lQ,fb (by decide),fb (by decide),fb (by decide),fb (by decide),fN rfl,j1,kE,K2];rfl
theorem wt(n:Nat)(ds:List D):aG (n+1) (.agg (.lit (.string [100,101,102,105,110,101])::ds))=Hw (aG n) ds:=by
 rw[aG,po,fb (by decide),fb (by decide),fb (by decide),fb (by decide),fb (by decide),fN rfl,Hw];simp only[j1,RZ,yd,kF,Nat.add_le_add_iff_right];have:(3<=ds.length+1/\0<(aE (ds.getD 0 (num 0))).length)↔(2<=ds.length/\0<(aE (ds.getD 0 (num 0))).length):=by omega
 simp only[this]
theorem ET(n:Nat)(ds:List D):aG (n+1) (.agg (.lit (.string [108,101,116])::ds))=(decide (2<=ds.length)&&aX (ds.getD 0 (num 0))&&jg (aG n) [] (aE (ds.getD 0 (num 0)))&&bn [] ((aE (ds.getD 0 (num 0))).map λb=>(aE b).getD 0 (num 0))&&(ds.drop 1).all (aG n)):=by
 rw[aG,zg,fb (by decide),fb (by decide),fb (by decide),fb (by decide),fb (by decide),fb (by decide),fN rfl,j1,kE,RZ,yd]
theorem yT(n:Nat)(d:D)(ds:List D)(h:aO (d::ds)=[]):aG (n+1) (.agg (d::ds))=(d::ds).all (aG n):=by
 rw[aG,h,fb (by decide),fb (by decide),fb (by decide),fb (by decide),fb (by decide),fb (by decide),fb (by decide)];simp
theorem yW(n:Nat)(ds:List D):aN (n+1) (.agg (.lit (.string [113,117,111,116,101])::ds))=Jv ds:=by
 rw[aN,rH,fN rfl,K2]
theorem wv(n:Nat)(ds:List D):aN (n+1) (.agg (.lit (.string [105,102])::ds))=(bF (aN n) ds).bind Pw:=by
 rw[aN,pm,fb (by decide),fN rfl,K2]
theorem EX(n:Nat)(ds:List D):aN (n+1) (.agg (.lit (.string [115,101,116,33])::ds))=zV (aN n) .set ds:=by
 rw[aN,zh,fb (by decide),fb (by decide),fN rfl,K2]
theorem wB(n:Nat)(ds:List D):aN (n+1) (.agg (.lit (.string [108,97,109,98,100,97])::ds))=wI (aN n) ds:=by
 rw[aN,pq,fb (by decide),fb (by decide),fb (by decide),fN rfl,K2]
theorem rE(n:Nat)(ds:List D):aN (n+1) (.agg (.lit (.string [98,101,103,105,110])::ds))=eW (aN n) ds:=by
 rw[aN,lQ,fb (by decide),fb (by decide),fb (by decide),fb (by decide),fN rfl,K2]
theorem ww(n:Nat)(ds:List D):aN (n+1) (.agg (.lit (.string [100,101,102,105,110,101])::ds))=tu (aN n) ds:=by
 rw[aN,po,fb (by decide),fb (by decide),fb (by decide),fb (by decide),fb (by decide),fN rfl,K2]
theorem EW(n:Nat)(ds:List D):aN (n+1) (.agg (.lit (.string [108,101,116])::ds))=rV (aN n) ds:=by
 rw[aN,zg,fb (by decide),fb (by decide),fb (by decide),fb (by decide),fb (by decide),fb (by decide),fN rfl,K2]
theorem yV(n:Nat)(d:D)(ds:List D)(h:aO (d::ds)=[]):aN (n+1) (.agg (d::ds))=(bF (aN n) (d::ds)).map .apply:=by
 rw[aN,h,fb (by decide),fb (by decide),fb (by decide),fb (by decide),fb (by decide),fb (by decide),fb (by decide),fb (by simp)]
theorem Cu(n:Nat)(q:qd n)(x:al)(vs:a7)(d:D)(ds:List D)(v:al)(w:aa)(a:bU w v (x::vs))(f:cH w n (x::vs) (d::ds))(y:(d::ds).length<=1000)(r:Bool)(l:Hid (r=aG (n+1) (.agg (d::ds)))):
  cl 57 #[v] w (aW w (λe=>aN (n+1) (.agg (d::ds))=some e) r):=by
 have B:=f.2.length;have A:ds.length<=1000:=by simp at y;omega
 have j:vs.length<=1000:=by omega
 have app:aO (d::ds)=[]->cl 96 #[v] w (aW w (λe=>aN (n+1) (.agg (d::ds))=some e) r):=λh=>by
  rw[yV n d ds h];exact qK n q (x::vs) (d::ds) v w a f y (by simp) r (by show _=_;rw[l.out,yT n d ds h])
 have C:∀tl,bU w tl vs->bU w tl vs:=λ_ h=>h;cases n with
 |zero=>exact f.1.elim
 |succ n=>
 have c:=f.1
 match d,c with
 |.agg [],c=>have h:x=_:=c.2;subst h;exact wS _ vs v w _ r a (app rfl)
 |.agg (_::_),c=>obtain⟨b,v1,E,rfl,_⟩:=c.2;exact pz _ vs v w _ r a (app rfl)
 |.lit (.int k m),c=>
  cases k<;>first|(cases c;done)|(have h:some _=some x:=c;cases h;exact Ct _ vs v w _ r a (app rfl))
 |.lit (.bool b),c=>have h:some _=some x:=c;cases h;exact zW _ vs v w _ r a (app rfl)
 |.lit (.string s),c=>
  have h:some _=some x:=c;cases h;cases hk:l7 s with
  |false=>exact zX ⟨s.toArray⟩ (by simpa using hk) vs v w _ r a (app (by rw[aO,hk];rfl))
  |true=>
   have z:s∈OS:=by rw[l7,Su] at hk;exact hk
   simp only[OS,RD,List.not_mem_nil,or_false] at z;rcases z with rfl|rfl|rfl|rfl|rfl|rfl|rfl
   .rw[yU] at l;rw[yW];exact d9 _ _ (.inl ⟨rfl,rfl⟩) vs v w _ r a j λtl t=>Jw _ vs ds tl w t f.2 A r l
   .rw[ws] at l;rw[wv];exact d9 _ _ (.inr<|.inl ⟨rfl,rfl⟩) vs v w _ r a j λtl t=>Br _ q vs ds tl w t f.2 A r l
   .rw[wt] at l;rw[ww];exact d9 _ _ (.inr<|.inr<|.inl ⟨rfl,rfl⟩) vs v w _ r a j λtl t=>BD _ q vs ds tl w t f.2 A r l
   .rw[EU] at l;rw[EX];exact d9 _ _ (.inr<|.inr<|.inr<|.inl ⟨rfl,rfl⟩) vs v w _ r a j λtl t=>Pe _ q vs ds tl w t f.2 A r l
   .rw[wu] at l;rw[wB];exact d9 _ _ (.inr<|.inr<|.inr<|.inr<|.inl ⟨rfl,rfl⟩) vs v w _ r a j λtl t=>B9 _ q vs ds tl w t f.2 A r l
   .rw[rD] at l;rw[rE];exact d9 _ _ (.inr<|.inr<|.inr<|.inr<|.inr<|.inl ⟨rfl,rfl⟩) vs v w _ r a j λtl t=>pD _ q vs ds tl w t f.2 A r l
   .rw[ET] at l;rw[EW];exact d9 _ _ (.inr<|.inr<|.inr<|.inr<|.inr<|.inr<|⟨rfl,rfl⟩) vs v w _ r a j λtl t=>Mm _ q vs ds tl w t f.2 A r l
 |.lit (.float _ _),c=>cases c
 |.lit .nil,c=>cases c
 |.nil,c=>cases c
 |.ptr _,c=>cases c
 |.slice _ _,c=>obtain⟨_,_,b,_,rfl⟩:=c;exact pz _ vs v w _ r a (app rfl)
 |.iface _ _,c=>cases c
 |.map _,c=>cases c
 |.held _,c=>cases c
theorem t8(v:Int)(w:aa):(Instr.typeAssert (.iface 130 (Jn v)) 81 130 true).run prog w=.ok (.tuple #[Jn v,.bool true]) w:=by kernel_rfl
theorem qM(v:Bool)(w:aa):(Instr.typeAssert (.iface 131 (.bool v)) 81 131 true).run prog w=.ok (.tuple #[.bool v,.bool true]) w:=by kernel_rfl
theorem yl(v:al)(w:aa):(Instr.typeAssert (.iface 131 v) 81 130 true).run prog w=.ok (.tuple #[Jn 0,.bool false]) w:=by kernel_rfl
theorem ti(v:al)(w:aa):(Instr.typeAssert (.iface 134 v) 81 130 true).run prog w=.ok (.tuple #[Jn 0,.bool false]) w:=by kernel_rfl
theorem vM(v:al)(w:aa):(Instr.typeAssert (.iface 207 v) 81 130 true).run prog w=.ok (.tuple #[Jn 0,.bool false]) w:=by kernel_rfl
theorem ym(v:al)(w:aa):(Instr.typeAssert (.iface 136 v) 81 130 true).run prog w=.ok (.tuple #[Jn 0,.bool false]) w:=by kernel_rfl
theorem yk(v:al)(w:aa):(Instr.typeAssert (.iface 130 v) 81 131 true).run prog w=.ok (.tuple #[.bool false,.bool false]) w:=by kernel_rfl
theorem qL(v:al)(w:aa):(Instr.typeAssert (.iface 134 v) 81 131 true).run prog w=.ok (.tuple #[.bool false,.bool false]) w:=by kernel_rfl
theorem th(v:al)(w:aa):(Instr.typeAssert (.iface 207 v) 81 131 true).run prog w=.ok (.tuple #[.bool false,.bool false]) w:=by kernel_rfl
theorem vL(v:al)(w:aa):(Instr.typeAssert (.iface 136 v) 81 131 true).run prog w=.ok (.tuple #[.bool false,.bool false]) w:=by kernel_rfl
theorem of_int(k:Int)(w:aa):cl 40 #[.iface 130 (Jn k)] w (aW w (λe=>e=.const (.lit (.int .i64 k))) true):=by
 have h1:=t8;have h2:=yk;go_enter func40,ntmps40;go_wp2;go_ret2;exact⟨⟨_,rfl,λ_=>⟨_,rfl,.const 1 _ _ _ rfl⟩⟩,fL _ _⟩
theorem of_bool(k:Bool)(w:aa):cl 40 #[.iface 131 (.bool k)] w (aW w (λe=>e=.const (.lit (.bool k))) true):=by
 have h1:=yl;have h2:=qM;go_enter func40,ntmps40;go_wp2;go_ret2;exact⟨⟨_,rfl,λ_=>⟨_,rfl,.const 1 _ _ _ rfl⟩⟩,fL _ _⟩
theorem Jb(w:aa):cl 40 #[.iface 207 (.agg #[])] w (aW w (λ_=>False) false):=by
 have h1:=vM;have h2:=th;have h3:=jE;have a:=iV;go_enter func40,ntmps40;go_wp2;go_ret2;exact⟨⟨_,rfl,λh=>by cases h⟩,fL _ _⟩
theorem Jc(s:ao)(w:aa)(r:Bool)(b:Hid (r= !(l7 s.data.toList))):cl 40 #[.iface 134 (.string s)] w (aW w (λe=>e=.var s.data.toList) r):=by
 have c:=ag (xj s w r b);have h1:=ti;have h2:=qL;have h3:=qP;clear b;go_enter func40,ntmps40;go_wp2_with fail;refine c.out.mono ?_;intro e w3 h3;have a:=ag h3;obtain⟨⟨u3,rfl,_⟩,_⟩:=h3;go_wp2;go_ret2;exact a.out
theorem DX(n:Nat)(f:qd n)(a:a8)(d:D)(ds:List D)(w:aa)(l:IV w (n+1) (.iface 136 (.pointer a)) (.agg (d::ds)))(r:Bool)(t:Hid (r=aG (n+1) (.agg (d::ds)))):cl 40 #[.iface 136 (.pointer a)] w (aW w (λe=>aN (n+1) (.agg (d::ds))=some e) r):=by
 have A:=ag l;have z:=ag l.1;have j:=ag f;have h1:=ym;have h2:=vL;have h3:=kz;have B:=qi;clear l f;go_enter func40,ntmps40;go_wp2_with fail;refine(gt n (.agg (d::ds)) _ _ A.out).mono ?_;rintro e s ⟨u,m,rfl,h,b,hb⟩;have v:=ag hb;have y:=ag (show cl 57 #[u] s (aW s (λe=>aN (n+1) (.agg (d::ds))=some e) r) from by
  match m,b with
  |[],b=>exact b.elim
  |x::m,b=>exact Cu n j.out x m d ds u s (bT.q h) b z.out r t)
 rw[show aX (.agg (d::ds))=true from rfl];clear h b hb t;go_wp2_with fail;refine y.out.mono ?_;intro e w3 h3;have c:=ag (h3.since v.out);obtain⟨⟨u3,rfl,_⟩,_⟩:=h3;go_wp2;go_ret2;exact c.out
theorem wT:∀n,qd n
 |0=>λd v w r h _=>h.elim
 |n+1=>λd v w r a c=>by
  match d,a with
  |.agg [],a=>
   have h:v=_:=a.2;subst h;have j:r=false:=by rw[c.out];rfl
   subst j;exact(Jb w).mono λe w' h=>h.mono (λ_ f=>f.elim)
  |.agg (d::ds),a=>
   obtain⟨b,v1,q,rfl,_⟩:=a.2;exact DX n (wT n) _ d ds w a r c
  |.lit (.int k m),a=>
   cases k<;>first|(cases a;done)|(have h:some _=some v:=a;cases h;have j:r=true:=c.out;subst j;exact(of_int m w).mono λe w' h=>h.mono (λk f=>by rw[f];rfl))
  |.lit (.bool b),a=>have h:some _=some v:=a;cases h;have j:r=true:=c.out;subst j;exact(of_bool b w).mono λe w' h=>h.mono (λk f=>by rw[f];rfl)
  |.lit (.string s),a=>
   have h:some _=some v:=a;cases h;cases hkw:l7 s with
   |true=>
    have hf:r=false:=by rw[c.out];simp[aG,hkw]
    subst hf;refine(Jc ⟨s.toArray⟩ w false (by show _=_;simp[hkw])).mono λe w' h=> ?_;obtain⟨⟨u,l,t⟩,hb⟩:=h;exact⟨⟨u,l,λh=>by cases h⟩,hb⟩
   |false=>
    exact(Jc ⟨s.toArray⟩ w r (by show _=_;rw[c.out];simp[aG])).mono λe w' h=>h.mono (λk f=>by rw[f];simp[aN,hkw])
  |.lit (.float _ _),a=>cases a
  |.lit .nil,a=>cases a
  |.nil,a=>cases a
  |.ptr _,a=>cases a
  |.slice [] _,a=>exact absurd a.2.1 (by simp)
  |.slice (d::ds) _,a=>
   obtain⟨⟨_,b,v1,q,rfl,_⟩,_⟩:=id a;exact DX n (wT n) _ d ds w a.1 r c
  |.iface _ _,a=>cases a
  |.map _,a=>cases a
  |.held _,a=>cases a
structure BS where
 is:List (Int×Int)
 cs:List (Option D)
 ns:List au
 ls:List (au×List Nat×Nat)
 bs:List E
def BS.new:BS:=⟨[],[],[],[],[]⟩
def am(st:BS)(op n:Int):BS:={st with is:=st.is++[(op,n)]}
def aF(st:BS)(i:Nat):BS:={st with is:=st.is.set i (((st.is.getD i (0,0)).1),(st.is.length:Int))}
def bM(st:BS)(c:Option D):BS:={st with cs:=st.cs++[c]}
def bh(st:BS)(s:au):BS:={st with ns:=if st.ns.contains s then st.ns else st.ns++[s]}
def gB(st:BS)(s:au):Nat:=st.ns.idxOf s
def fW(st:BS)(last:Bool):BS:=if last then am st 13 0 else st
def cZ:BS->List au->BS
 |st,[]=>st
 |st,s::r=>cZ (bh st s) r
def gd:BS->List au->List Nat
 |_,[]=>[]
 |st,s::r=>gB st s::gd (bh st s) r
def dF(st:BS)(nm:au)(xs:List au)(a:E):BS:=
 {cZ st xs with ls:=st.ls++[(nm,gd st xs,0)],bs:=st.bs++[a]}
mutual
def aL:E->Bool->BS->BS
 |.const d,last,st=>fW (am (bM st (some d)) 1 st.cs.length) last
 |.nothing,last,st=>fW (am (bM st none) 1 st.cs.length) last
 |.var s,last,st=>fW (am (bh st s) 2 (gB st s)) last
 |.lambda nm xs a,last,st=>fW (am (dF st nm xs a) 3 st.bs.length) last
 |.define s a,last,st=>
  let st1:=aF (aL a false (am st 4 0)) st.is.length
  fW (am (bh st1 s) 9 (gB st1 s)) last
 |.set s a,last,st=>
  let st1:=aF (aL a false (am st 4 0)) st.is.length
  fW (am (bh st1 s) 10 (gB st1 s)) last
 |.ite a b c,_,st=>
  let st1:=aF (aL a false (am st 4 0)) st.is.length
  let st2:=aF (aL b true (am st1 8 0)) st1.is.length
  aL c true st2
 |.seq es,last,st=>eS es 4 last st
 |.apply es,_,st=>am (am (fE es 4 st) 11 0) 12 0
def eS:List E->Int->Bool->BS->BS
 |[],_,_,st=>st
 |[e],_,last,st=>aL e last (am st 7 0)
 |e::r,op,last,st=>eS r 6 last (aF (aL e false (am st op 0)) st.is.length)
def fE:List E->Int->BS->BS
 |[],_,st=>st
 |e::r,op,st=>fE r 5 (aF (aL e false (am st op 0)) st.is.length)
end
def eJ(op:Int)(e:E)(st:BS):BS:=aF (aL e false (am st op 0)) st.is.length
def gX(e:E)(st:BS):BS:=aF (aL e true (am st 0 0)) st.is.length
def ce:List E->BS->BS
 |[],st=>st
 |e::r,st=>ce r (gX e st)
def bv(st:BS)(i:Nat):BS:={st with ls:=st.ls.set i ((st.ls.getD i ([],[],0)).1,(st.ls.getD i ([],[],0)).2.1,st.is.length)}
def bY:Nat->Nat->BS->BS
 |0,_,st=>st
 |n+1,i,st=>match st.bs[i]? with
  |some e=>bY n (i+1) (aL e true (bv st i))
  |none=>st
def dY(es:List E):BS:=bY 1048576 0 (am (ce es BS.new) 14 0)
def BS.size(st:BS):Nat:=st.is.length+st.cs.length+st.ns.length+st.ls.length
def BS.eh(st:BS):Nat:=st.size+8 *bG st.bs
theorem fl:∀(a b:List E),bG (a++b)=bG a+bG b
 |[],b=>by simp[bG]
 |e::r,b=>by simp only[s6,bG,fl r b];omega
theorem qx(e:E):1<=cJ e:=by cases e<;>simp[cJ]
theorem bu(st:BS)(op n:Int):(am st op n).eh=st.eh+1:=by simp[am,BS.eh,BS.size];omega
theorem eq(st:BS)(i:Nat):(aF st i).eh=st.eh:=by simp[aF,BS.eh,BS.size]
theorem uQ(st:BS)(c:Option D):(bM st c).eh=st.eh+1:=by simp[bM,BS.eh,BS.size];omega
theorem sl(st:BS)(s:au):(bh st s).eh<=st.eh+1:=by
 simp only[bh,BS.eh,BS.size];split<;>simp<;>omega
theorem lx(st:BS)(last:Bool):(fW st last).eh<=st.eh+1:=by
 unfold fW;split
 .rw[bu];exact ew _
 .omega
theorem bW:∀(xs:List au) (st:BS),(cZ st xs).is=st.is/\(cZ st xs).cs=st.cs/\(cZ st xs).ls=st.ls/\(cZ st xs).bs=st.bs/\(cZ st xs).ns.length<=st.ns.length+xs.length
 |[],st=>⟨rfl,rfl,rfl,rfl,ew _⟩
 |s::r,st=>by
  obtain⟨h1,h2,h3,a,b⟩:=bW r (bh st s);refine⟨h1,h2,h3,a,?_⟩;have:(bh st s).ns.length<=st.ns.length+1:=by simp only[bh];split<;>simp
  simp only[cZ,j1];omega
theorem MN(st:BS)(nm:au)(xs:List au)(a:E):(dF st nm xs a).eh<=st.eh+xs.length+1+8 *cJ a:=by
 obtain⟨h1,h2,h3,b,c⟩:=bW xs st;simp only[dF,BS.eh,BS.size,h1,h2,fl,ga,j1,R0,bG];omega
theorem r6:∀(xs:List au),xs.length<=(xs.map (λs=>s.length+1)).sum
 |[]=>ew _
 |s::r=>by have:=r6 r;simp;omega
mutual
theorem dI:∀(e:E) (last:Bool) (st:BS),(aL e last st).eh+1<=st.eh+8 *cJ e
 |.const d,last,st=>by
  have:=lx (am (bM st (some d)) 1 st.cs.length) last;rw[bu,uQ] at this;simp only[aL,cJ];omega
 |.nothing,last,st=>by
  have:=lx (am (bM st none) 1 st.cs.length) last;rw[bu,uQ] at this;simp only[aL,cJ];omega
 |.var s,last,st=>by
  have h1:=lx (am (bh st s) 2 (gB st s)) last;have h2:=sl st s;rw[bu] at h1;simp only[aL,cJ];omega
 |.lambda nm xs a,last,st=>by
  have h1:=lx (am (dF st nm xs a) 3 st.bs.length) last;have h2:=MN st nm xs a;have h3:=r6 xs;rw[bu] at h1;simp only[aL,cJ];omega
 |.define s a,last,st=>by
  have f:=dI a false (am st 4 0);rw[bu] at f;have h1:=lx (am (bh (aF (aL a false (am st 4 0)) st.is.length) s) 9 (gB (aF (aL a false (am st 4 0)) st.is.length) s)) last;have h2:=sl (aF (aL a false (am st 4 0)) st.is.length) s;rw[bu] at h1;rw[eq] at h2;simp only[aL,cJ];omega
 |.set s a,last,st=>by
  have f:=dI a false (am st 4 0);rw[bu] at f;have h1:=lx (am (bh (aF (aL a false (am st 4 0)) st.is.length) s) 10 (gB (aF (aL a false (am st 4 0)) st.is.length) s)) last;have h2:=sl (aF (aL a false (am st 4 0)) st.is.length) s;rw[bu] at h1;rw[eq] at h2;simp only[aL,cJ];omega
 |.ite a b c,last,st=>by
  have f:=dI a false (am st 4 0);have h1:=dI b true (am (aF (aL a false (am st 4 0)) st.is.length) 8 0);have h2:=dI c true (aF (aL b true (am (aF (aL a false (am st 4 0)) st.is.length) 8 0)) (aF (aL a false (am st 4 0)) st.is.length).is.length);rw[bu] at f h1;rw[eq] at h1 h2;simp only[aL,cJ];omega
 |.seq es,last,st=>by
  have:=D3 es 4 last st;simp only[aL,cJ];omega
 |.apply es,last,st=>by
  have:=D2 es 4 st;simp only[aL,cJ];rw[bu,bu];omega
theorem D3:∀(es:List E) (op:Int) (last:Bool) (st:BS),(eS es op last st).eh<=st.eh+8 *bG es
 |[],op,last,st=>by simp only[eS];omega
 |[e],op,last,st=>by
  have:=dI e last (am st 7 0);rw[bu] at this;simp only[eS,bG];omega
 |e::e2::r,op,last,st=>by
  have h1:=dI e false (am st op 0);have h2:=D3 (e2::r) 6 last (aF (aL e false (am st op 0)) st.is.length);rw[bu] at h1;rw[eq] at h2;simp only[eS,bG] at *;omega
theorem D2:∀(es:List E) (op:Int) (st:BS),(fE es op st).eh<=st.eh+8 *bG es
 |[],op,st=>by simp only[fE];omega
 |e::r,op,st=>by
  have h1:=dI e false (am st op 0);have h2:=D2 r 5 (aF (aL e false (am st op 0)) st.is.length);rw[bu] at h1;rw[eq] at h2;simp only[fE,bG] at *;omega
end
end Go.Proofs.YtlobegpjenabaaaGreatDoor
