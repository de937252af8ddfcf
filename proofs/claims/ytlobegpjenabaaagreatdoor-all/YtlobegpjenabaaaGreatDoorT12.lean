import Derived.Test.YtlobegpjenabaaaGreatDoorT11
import Derived.ArgAppend
namespace Go.Proofs.YtlobegpjenabaaaGreatDoor
open Go.RowKit Tryz
set_option linter.unusedVariables false
set_option linter.defProp false
set_option maxRecDepth 100000
set_option maxHeartbeats 4000000
def ta:=@List.length_map
def Cb:=@World.cell?_alloc_at
def PV:=@List.getElem?_set_ne
def QK:=@List.getElem?_set_self
def R9:=@List.eq_nil_of_length_eq_zero
def Sv:=@List.idxOf_lt_length_of_mem
def Ti:=@Bool.false_or
def Tt:=@run_append_lies
def TA:=@cond_false
variable {a mo mo' mf mf' ow ow':Nat->Option Nat} {w' w1:aa} {p op:a8} {T T':bi} {own' sh' X' S:a9} {u nv vv u0 u1 u2 u3 x app args:al} {xs x1 x3:a7} {B n g off cap i K M id gf:Nat} {pn:ao} {s:MS} {C:Cd} {o:List au} {c':bc} {frs:List Fr} {P:Program} {ops:Array Oper} {rest:List Oper} {Q:Exit->Act->aa->Prop}
def Le(a b:Nat->Option Nat):Prop:=∀i g,a i=some g->b i=some g
theorem Le.refl(a:Nat->Option Nat):Le a a:=λ_ _ h=>h
def TV:=@Le.refl
theorem Le.trans{b c:Nat->Option Nat}(h:Le a b)(k:Le b c):Le a c:=λi g x=>k i g (h i g x)
def VX(w:aa)(mo:Nat->Option Nat):V->al->Prop
 |.int k,v=>v=.iface 130 (.int .i64 k)/\-9223372036854775808<=k/\k<=9223372036854775807
 |.bool b,v=>v=.iface 131 (.bool b)
 |.sym s,v=>v=.iface 134 (.string ⟨s.toArray⟩)/\s.length<=8000
 |.empty,v=>v=.iface 207 (.agg #[])
 |.nothing,v=>v=.iface 259 (.agg #[])
 |.pair id a b,v=>∃g x y,mo id=some g/\v=.iface 136 (.pointer (some ⟨g,0,none⟩))/\w.heap[g]? =some (Obj.cells #[x,y] 205 (0,0))/\VX w mo a x/\VX w mo b y
 |.proc id,v=>id%2=0/\∃g,mo id=some g/\v=.iface 216 (.pointer (some ⟨g,0,none⟩))
theorem VX.ak{w:aa}(k:aC 205 w w')(hm:Le mo mo'):∀(v:V) (x:al),VX w mo v x->VX w' mo' v x
 |.int _,_,h=>h
 |.bool _,_,h=>h
 |.sym _,_,h=>h
 |.empty,_,h=>h
 |.nothing,_,h=>h
 |.pair id a b,_,⟨g,x,y,h1,h2,h3,d,e⟩=>⟨g,x,y,hm _ _ h1,h2,k _ _ h3,VX.ak k hm a x d,VX.ak k hm b y e⟩
 |.proc id,_,⟨c,g,h1,h2⟩=>⟨c,g,hm _ _ h1,h2⟩
theorem VX.form{w:aa}:∀{v:V} {x:al},VX w mo v x->∃t y,x=.iface t y
 |.int _,_,h=>⟨_,_,h.1⟩
 |.bool _,_,h=>⟨_,_,h⟩
 |.sym _,_,h=>⟨_,_,h.1⟩
 |.empty,_,h=>⟨_,_,h⟩
 |.nothing,_,h=>⟨_,_,h⟩
 |.pair _ _ _,_,⟨_,_,_,_,h,_⟩=>⟨_,_,h⟩
 |.proc _,_,⟨_,_,_,h⟩=>⟨_,_,h⟩
theorem VX.vr{w:aa}(d:∀i g,mo i=some g->g<w.heap.size):∀(v:V) (x:al),VX w mo v x->VR w w.heap.size (λi=>(mo i).getD 0) v x
 |.int _,_,h=>h
 |.bool _,_,h=>h
 |.sym _,_,h=>h
 |.empty,_,h=>h
 |.nothing,_,h=>h
 |.pair id a b,_,⟨g,x,y,h1,h2,h3,e,f⟩=>by
  have c:(mo id).getD 0=g:=by rw[h1];rfl
  exact⟨by simp only[c];exact h2,by simp only[c];exact d _ _ h1,x,y,by simp only[c];exact h3,VX.vr d a x e,VX.vr d b y f⟩
 |.proc id,_,⟨_,g,h1,h2⟩=>by
  have c:(mo id).getD 0=g:=by rw[h1];rfl
  exact⟨by simp only[c];exact h2,by simp only[c];exact d _ _ h1⟩
def OV(w:aa)(mo:Nat->Option Nat):Option V->al->Prop
 |none,v=>v=.nilIface
 |some v,x=>VX w mo v x
theorem OV.ak{w:aa}(k:aC 205 w w')(hm:Le mo mo'):∀(v:Option V) (x:al),OV w mo v x->OV w' mo' v x
 |none,_,h=>h
 |some v,x,h=>VX.ak k hm v x h
def eV(w:aa)(mo:Nat->Option Nat):List V->a7->Prop
 |[],[]=>True
 |v::vs,x::xs=>VX w mo v x/\eV w mo vs xs
 |_,_=>False
theorem eV.ak{w:aa}(k:aC 205 w w')(hm:Le mo mo'):∀(v:List V) (x:a7),eV w mo v x->eV w' mo' v x
 |[],[],_=>trivial
 |[],_::_,h=>h.elim
 |_::_,[],h=>h.elim
 |v::vs,x::xs,h=>⟨VX.ak k hm v x h.1,eV.ak k hm vs xs h.2⟩
theorem eV.length{w:aa}:∀{v:List V} {x:a7},eV w mo v x->v.length=x.length
 |[],[],_=>rfl
 |[],_::_,h=>h.elim
 |_::_,[],h=>h.elim
 |v::vs,x::xs,h=>by simp[eV.length h.2]
theorem eV.append{w:aa}:∀{v b:List V} {x c:a7},eV w mo v x->eV w mo b c->eV w mo (v++b) (x++c)
 |[],_,[],_,_,h=>h
 |[],_,_::_,_,h,_=>h.elim
 |_::_,_,[],_,h,_=>h.elim
 |v::vs,_,x::xs,_,h,d=>⟨h.1,eV.append h.2 d⟩
theorem eV.reverse{w:aa}:∀{v:List V} {x:a7},eV w mo v x->eV w mo v.reverse x.reverse
 |[],[],_=>trivial
 |[],_::_,h=>h.elim
 |_::_,[],h=>h.elim
 |v::vs,x::xs,h=>by
  rw[RF,RF];exact eV.append (eV.reverse h.2) ⟨h.1,trivial⟩
theorem eV.get{w:aa}:∀{v:List V} {x:a7} (i:Nat) (a:V),eV w mo v x->v[i]? =some a->∃y,x[i]? =some y/\VX w mo a y
 |[],_,i,a,_,h=>by simp at h
 |_::_,[],_,_,h,_=>h.elim
 |v::vs,x::xs,0,a,h,e=>by simp at e;subst e;exact⟨x,rfl,h.1⟩
 |v::vs,x::xs,i+1,a,h,e=>eV.get i a h.2 e
theorem eV.set{w:aa}:∀{v:List V} {x:a7} (i:Nat) (a:V) (y:al),eV w mo v x->VX w mo a y->eV w mo (v.set i a) (x.set i y)
 |[],[],_,_,_,_,_=>trivial
 |[],_::_,_,_,_,h,_=>h.elim
 |_::_,[],_,_,_,h,_=>h.elim
 |v::vs,x::xs,0,a,y,h,e=>⟨e,h.2⟩
 |v::vs,x::xs,i+1,a,y,h,e=>⟨h.1,eV.set i a y h.2 e⟩
theorem eV.aH{w:aa}:∀{v:List V} {x:a7},eV w mo v x->∀y∈x,∃t z,y=.iface t z
 |[],[],_,y,b=>by simp at b
 |[],_::_,h,_,_=>h.elim
 |_::_,[],h,_,_=>h.elim
 |v::vs,x::xs,h,y,b=>by
  rcases RD.1 b with e|e
  .subst e;exact h.1.form
  .exact eV.aH h.2 y e
def N5(w:aa)(mo:Nat->Option Nat)(p:a8)(l:List V):Prop:=∃xs,ld w p xs/\eV w mo l xs
theorem N5.ak{w:aa}(k:aC 205 w w')(ki:aC 333 w w')(hm:Le mo mo'){l:List V}:N5 w mo p l->N5 w' mo' p l
 |⟨xs,h1,h2⟩=>⟨xs,ld.ak ki _ _ h1,eV.ak k hm _ _ h2⟩
def Ba(w:aa)(mo mf:Nat->Option Nat):a8->List En->Prop
 |p,[]=>p=none
 |p,e::r=>∃g q gf got,p=some ⟨g,0,none⟩/\w.heap[g]? =some (Obj.cells (ph q r.length (some ⟨gf,0,none⟩) e.nx got) 115 (0,0))/\mf e.fr=some gf/\N5 w mo got e.got/\e.got.length<=1000000/\r.length<=1000/\Ba w mo mf q r
theorem Ba.ak{w:aa}(k:aC 205 w w')(ki:aC 333 w w')(b:aC 115 w w')(hm:Le mo mo')(hf:Le mf mf'):∀{l:List En} {p:a8},Ba w mo mf p l->Ba w' mo' mf' p l
 |[],_,h=>h
 |e::r,_,⟨g,q,gf,got,h1,h2,h3,c,d,f,j⟩=>⟨g,q,gf,got,h1,b _ _ h2,hf _ _ h3,c.ak k ki hm,d,f,Ba.ak k ki b hm hf j⟩
def Rw(w:aa)(T:bi)(own sh:a9)(u:al)(xs:a7):Prop:=
 (u=.slice none 0 0/\xs=[])\/∃g b a c,u=.slice (some ⟨g,b,none⟩) xs.length a/\xs.length<=a/\a<=maxLen/\w.heap[g]? =some (Obj.cells c T (0,0))/\(c.toList.drop b).take xs.length=xs/\((own g/\b=0/\c.size=a)\/(sh g/\a=xs.length))
theorem Rw.imp{w:aa}{own sh:a9}(h:Rw w T own sh u xs)(ho:∀g c,own g->w.heap[g]? =some (Obj.cells c T (0,0))->own' g/\w'.heap[g]? =some (Obj.cells c T (0,0)))(k:∀g c,sh g->w.heap[g]? =some (Obj.cells c T (0,0))->sh' g/\w'.heap[g]? =some (Obj.cells c T (0,0))):Rw w' T own' sh' u xs:=by
 rcases h with h|⟨g,off,cap,e,h1,h2,d,h3,f,j⟩
 .exact .inl h
 .rcases j with⟨a,b,c⟩|⟨a,b⟩
  .have:=ho g e a h3;exact .inr ⟨g,off,cap,e,h1,h2,d,this.2,f,.inl ⟨this.1,b,c⟩⟩
  .have:=k g e a h3;exact .inr ⟨g,off,cap,e,h1,h2,d,this.2,f,.inr ⟨this.1,b⟩⟩
theorem Rw.Cv{w:aa}{own sh:a9}(h:w.ownsRow B T 1 u n xs)(ho:∀k,u.ownBlock=some k->own k):Rw w T own sh u xs:=by
 obtain⟨b,h|⟨g,cap,e,h1,h2,h3,f,j,c,d⟩⟩:=h
 .refine .inl ⟨h.1,R9 ?_⟩;rw[b,h.2]
 .rw[S9] at b d c;subst b;exact .inr ⟨g,0,cap,e,h1,f,j,h3,by rw[RQ];exact d,.inl ⟨ho g (by rw[h1];rfl),rfl,c⟩⟩
theorem Rw.at{w:aa}{own sh:a9}(h:Rw w T own sh u xs):∃a cap,u=.slice a xs.length cap/\xs.length<=cap/\cap<=maxLen/\(a=none->xs=[]/\cap=0)/\∀i (hi:i<xs.length),∃g off c,a=some ⟨g,off,none⟩/\(own g\/sh g)/\w.heap[g]? =some (Obj.cells c T (0,0))/\w.cell? ⟨g,off+i,none⟩=some xs[i]:=by
 rcases h with⟨rfl,rfl⟩|⟨g,off,cap,d,h1,h2,b,h3,j,k⟩
 .exact⟨none,0,rfl,ew _,kc _,λ_=>⟨rfl,rfl⟩,λi hi=>absurd hi (by simp)⟩
 .refine⟨some ⟨g,off,none⟩,cap,h1,h2,b,(λe=>by cases e),λi hi=>⟨g,off,d,rfl,k.imp (·.1) (·.1),h3,?_⟩⟩;rw[ae h3];have f:((d.toList.drop off).take xs.length)[i]? =some xs[i]:=by rw[j];simp[hi]
  rw[Bk,fN hi,Sn] at f;rw[<-C1];exact f
theorem Rw.put{w:aa}{own sh:a9}(h:Rw w T own sh (.slice (some (dq g off)) xs.length cap) xs)(i:Nat)(v:al)(hi:i<xs.length):Rw (w.setCell (dq g (off+i)) v) T own sh (.slice (some (dq g off)) xs.length cap) (xs.set i v):=by
 rcases h with⟨h,_⟩|⟨f,off',cap',c,h1,h2,b,h3,d,e⟩
 .cases h
 .cases h1;refine .inr ⟨g,off,cap,c.setIfInBounds (off+i) v,by rw[s5],by rw[s5];exact h2,b,TH h3,?_,by rw[s5];simpa using e⟩;rw[s5,RY,List.drop_set,fb (by omega),Nat.add_sub_cancel_left,S0,d]
structure GC(w:aa)(X:a9)(ow mo mf:Nat->Option Nat)(i:Nat)(fr:Fr)(g:Nat)(d:ao)(b c:al)(op:a8)(xs:a7):Prop where
 tag:ow g=some (i+1)
 hS:w.heap[g]? =some (Obj.cells #[.string d,b,c,.pointer op] 176 (0,0))
 nr:Rw w 3 (λk=>ow k=some (i+1)) (λk=>¬X k) b (fr.ns.map (Value.int .i64))
 vr:Rw w 81 (λk=>ow k=some (i+1)) (λk=>ow k=some (i+1)) c xs
 vs:eV w mo fr.vs xs
 out:match fr.out with
  |none=>op=none
  |some j=>j<i/\∃a,mf j=some a/\op=some ⟨a,0,none⟩
 len:fr.ns.length=fr.vs.length
 le:fr.ns.length<=1000000
theorem GC.ak{w:aa}{X:a9}{fr:Fr}(h:GC w X ow mo mf i fr g pn nv vv op xs)(k:aC 205 w w')(hm:Le mo mo')(hf:Le mf mf')(ho:∀b,b<w.heap.size->ow b=some (i+1)->ow' b=some (i+1)/\w'.heap[b]? =w.heap[b]?)(f:∀b,b<w.heap.size->¬X b->¬X' b/\w'.heap[b]? =w.heap[b]?):GC w' X' ow' mo' mf' i fr g pn nv vv op xs:=by
 have h1:=ho g (ai h.hS) h.tag;refine⟨h1.1,by rw[h1.2];exact h.hS,h.nr.imp (λb c hb d=> ?_) (λb c hb d=> ?_),h.vr.imp (λb c hb d=> ?_) (λb c hb d=> ?_),eV.ak k hm _ _ h.vs,?_,h.len,h.le⟩
 .have:=ho b (ai d) hb;exact⟨this.1,by rw[this.2];exact d⟩
 .have:=f b (ai d) hb;exact⟨this.1,by rw[this.2];exact d⟩
 .have:=ho b (ai d) hb;exact⟨this.1,by rw[this.2];exact d⟩
 .have:=ho b (ai d) hb;exact⟨this.1,by rw[this.2];exact d⟩
 .have:=h.out
  revert this
  cases fr.out with
  |none=>exact λh=>h
  |some j=>rintro⟨h1,e,h2,h3⟩;exact⟨h1,e,hf _ _ h2,h3⟩
def MT:List bi:=[119,176,3,81,9,168,229,96,28,69,101,26]
def KI(w w':aa):Prop:=∀T,MT.contains T=false->aC T w w'
theorem KI.refl(w:aa):KI w w:=λ_ _=>TY _
theorem KI.trans{a b c:aa}(h:KI a b)(k:KI b c):KI a c:=λT d=>(h T d).trans (k T d)
theorem KI.aj{w:aa}(h:Below w.heap.size w w'):KI w w':=λ_ _=>TX h
def mu(w:aa)(B:Nat)(S:a9):Prop:=∀k,S k->B<=k/\∃c T,w.heap[k]? =some (Obj.cells c T (0,0))/\MT.contains T=true
theorem KI.aT{w:aa}(f:mu w B S)(h:aB S w w'):KI w w':=λT b=>T1 h λk c e d=>by
 obtain⟨_,c',T',h1,h2⟩:=f k e;rw[d] at h1;cases h1;rw[b] at h2;cases h2
def OR(w:aa)(X:a9)(T:bi)(s:Nat)(u:al)(n:Nat)(xs:a7):Prop:=w.ownsRow 0 T s u n xs/\∀k,u.ownBlock=some k->¬X k
theorem OR.ak{w:aa}{X:a9}{s:Nat}(h:OR w X T s u n xs)(q:∀b,b<w.heap.size->¬X b->¬X' b/\w'.heap[b]? =w.heap[b]?):OR w' X' T s u n xs:=by
 obtain⟨⟨d,h1⟩,h2⟩:=h;rcases h1 with h1|⟨g,cap,j,h3,l,e,m⟩
 .exact⟨⟨d,.inl h1⟩,λk c=>by rw[h1.1] at c;cases c⟩
 .have f:=q g (ai e) (h2 g (by rw[h3];rfl));refine⟨⟨d,.inr ⟨g,cap,j,h3,l,by rw[f.2];exact e,m⟩⟩,λk c=> ?_⟩;rw[h3] at c;cases c;exact f.1
def rM(ns:List Nat):a7:=ns.map λ(k:Nat)=>Value.int .i64 k
def L1(w:aa)(X:a9)(l:au×List Nat×Nat)(a b c:al):Prop:=a=bO l.1/\OR w X 3 1 b l.2.1.length (rM l.2.1)/\c=Jn l.2.2/\l.2.1.length<=1000000
def LX(w:aa)(X:a9):List (au×List Nat×Nat)->a7->Prop
 |[],[]=>True
 |l::ls,a::b::c::vs=>L1 w X l a b c/\LX w X ls vs
 |_,_=>False
theorem LX.ak{w:aa}{X:a9}(d:∀b,b<w.heap.size->¬X b->¬X' b/\w'.heap[b]? =w.heap[b]?):∀(l:List (au×List Nat×Nat)) (v:a7),LX w X l v->LX w' X' l v
 |[],[],_=>trivial
 |[],_::_,h=>h.elim
 |_::_,[],h=>h.elim
 |_::_,[_],h=>h.elim
 |_::_,[_,_],h=>h.elim
 |l::ls,a::b::c::vs,h=>⟨⟨h.1.1,h.1.2.1.ak d,h.1.2.2⟩,LX.ak d ls vs h.2⟩
theorem LX.get{w:aa}{X:a9}:∀(ls:List (au×List Nat×Nat)) (vs:a7) (i:Nat) (l:au×List Nat×Nat),LX w X ls vs->ls[i]? =some l->∃a b c,vs[i *3]? =some a/\vs[i *3+1]? =some b/\vs[i *3+2]? =some c/\L1 w X l a b c
 |[],_,_,_,_,h=>by simp at h
 |_::_,[],_,_,h,_=>h.elim
 |_::_,[_],_,_,h,_=>h.elim
 |_::_,[_,_],_,_,h,_=>h.elim
 |l::ls,a::b::c::vs,0,l',h,e=>by simp at e;subst e;exact⟨a,b,c,rfl,rfl,rfl,h.1⟩
 |l::ls,a::b::c::vs,i+1,l',h,e=>by
  obtain⟨x,y,z,h1,h2,h3,d⟩:=LX.get ls vs i l' h.2 e;refine⟨x,y,z,?_,?_,?_,d⟩
  .rw[show(i+1) *3=i *3+3 by omega];exact h1
  .rw[show(i+1) *3+1=(i *3+1)+3 by omega];exact h2
  .rw[show(i+1) *3+2=(i *3+2)+3 by omega];exact h3
def jj(K:Nat):Nat->Option Nat:=λi=>if i%2=1/\i/2<K then some (i/2) else none
structure Qy(K:Nat)(w:aa)(X:a9)(b:Nat)(C:Cd)(c:bc)(u0 u1 u2 u3:al)(x1 x3:a7):Prop where
 hS:w.heap[b]? =some (Obj.cells c 147 (0,0))
 c0:c[0]? =some u0
 c1:c[1]? =some u1
 c2:c[2]? =some u2
 c3:c[3]? =some u3
 r0:OR w X 174 2 u0 C.is.length (gW C.is)
 r1:OR w X 81 1 u1 C.cs.length x1
 v1:eV w (jj K) C.cs x1
 r2:OR w X 9 1 u2 C.ns.length (C.ns.map bO)
 r3:OR w X 213 3 u3 C.ls.length x3
 l3:LX w X C.ls x3
 li:C.is.length<=1000000
 ln:C.ns.length<=1000000
 lc:C.cs.length<=1000000
 ll:C.ls.length<=1000000
 lb:K<=w.heap.size
theorem Qy.ak{w:aa}{X:a9}{b:Nat}{c:bc}(h:Qy K w X b C c u0 u1 u2 u3 x1 x3)(k:KI w w')(e:w.heap.size<=w'.heap.size)(d:∀b,b<w.heap.size->¬X b->¬X' b/\w'.heap[b]? =w.heap[b]?):Qy K w' X' b C c u0 u1 u2 u3 x1 x3:=
 ⟨k _ (by decide) _ _ h.hS,h.c0,h.c1,h.c2,h.c3,h.r0.ak d,h.r1.ak d,eV.ak (k _ (by decide)) (TV _) _ _ h.v1,h.r2.ak d,h.r3.ak d,LX.ak d _ _ h.l3,h.li,h.ln,h.lc,h.ll,ku h.lb e⟩
def Code(K:Nat)(w:aa)(X:a9)(b:Nat)(C:Cd):Prop:=∃c u0 u1 u2 u3 x1 x3,Qy K w X b C c u0 u1 u2 u3 x1 x3
theorem Code.ak{w:aa}{X:a9}{b:Nat}(h:Code K w X b C)(k:KI w w')(d:w.heap.size<=w'.heap.size)(e:∀b,b<w.heap.size->¬X b->¬X' b/\w'.heap[b]? =w.heap[b]?):Code K w' X' b C:=by
 obtain⟨c,u0,u1,u2,u3,x1,x3,h⟩:=h;exact⟨c,u0,u1,u2,u3,x1,x3,h.ak k d e⟩
def Ro:List Nat:=[211,211,211,211,211,213,214,214,215,215,215,213]
def Rn:List Nat:=[160,161,162,163,164,166,168,169,171,172,173,174]
def aD(g:Nat):al:=.pointer (some ⟨g,0,none⟩)
def qz(w:aa)(b:Nat)(T:bi)(v:al):Prop:=w.heap[b]? =some (Obj.cells #[v] T (0,0))
def Pp(w:aa)(X:a9)(mo mf:Nat->Option Nat)(M:Nat)(C:Cd):PK->al->Prop
 |.first k,a=>(k=12/\a=.func (.func 175) #[aD M] #[])\/(k=13/\a=.func (.func 176) #[aD M] #[])\/(k<12/\∃mb c T,MT.contains T=false/\a=.func (.func (Ro.getD k 0)) #[] #[aD mb,aD c]/\qz w mb 73 (aD M)/\qz w c T (.func (.func (Rn.getD k 0)) #[aD M] #[]))
 |.clo l f,a=>∃b lb ob mb gf z nm u ns e,a=.func (.func 192) #[] #[aD b,aD lb,aD ob,aD mb]/\qz w b 9 (.string z)/\¬X b/\w.heap[lb]? =some (Obj.cells #[bO nm,u,.int .i64 (e:Nat)] 213 (0,0))/\qz w ob 112 (aD gf)/\qz w mb 73 (aD M)/\mf f=some gf/\C.ls[l]? =some (nm,ns,e)/\OR w X 3 1 u ns.length (rM ns)/\ns.length<=1000000
 |.kont st,a=>∃tb mb top,a=.func (.func 231) #[] #[aD tb,aD mb]/\qz w tb 111 (.pointer top)/\qz w mb 73 (aD M)/\Ba w mo mf top st
theorem Pp.ak{w:aa}{X:a9}(k:KI w w')(hm:Le mo mo')(hf:Le mf mf')(m:∀b,b<w.heap.size->¬X b->¬X' b/\w'.heap[b]? =w.heap[b]?):∀{p:PK} {v:al},Pp w X mo mf M C p v->Pp w' X' mo' mf' M C p v
 |.first n,_,h=>by
  rcases h with h|h|⟨h1,mb,r,T,h2,h3,c,j⟩
  .exact .inl h
  .exact .inr (.inl h)
  .exact .inr (.inr ⟨h1,mb,r,T,h2,h3,k _ (by decide) _ _ c,k _ h2 _ _ j⟩)
 |.clo l f,_,⟨q,lb,ob,mb,gf,z,nm,u,ns,e,h1,h2,h3,c,j,t,y,A,D,d⟩=>
  ⟨q,lb,ob,mb,gf,z,nm,u,ns,e,h1,(m q (ai h2) h3).2.trans h2,(m q (ai h2) h3).1,k _ (by decide) _ _ c,k _ (by decide) _ _ j,k _ (by decide) _ _ t,hf _ _ y,A,D.ak m,d⟩
 |.kont st,_,⟨tb,mb,top,h1,h2,h3,c⟩=>⟨tb,mb,top,h1,k _ (by decide) _ _ h2,k _ (by decide) _ _ h3,c.ak (k _ (by decide)) (k _ (by decide)) (k _ (by decide)) hm hf⟩
def nF(C:Cd):PK->Nat
 |.first k=>eD k
 |.clo l _=>((C.ls[l]?).getD ([],[],0)).2.1.length
 |.kont _=>1
def Oa(w:aa)(X:a9)(mo mf:Nat->Option Nat)(M:Nat)(C:Cd)(id:Nat)(p:PK):Prop:=
 ∃g z a,mo id=some g/\w.heap[g]? =some (Obj.cells #[.string z,Jn (nF C p:Nat),a] 220 (0,0))/\Pp w X mo mf M C p a
theorem Oa.ak{w:aa}{X:a9}{p:PK}(k:KI w w')(hm:Le mo mo')(hf:Le mf mf')(d:∀b,b<w.heap.size->¬X b->¬X' b/\w'.heap[b]? =w.heap[b]?)(h:Oa w X mo mf M C id p):Oa w' X' mo' mf' M C id p:=by
 obtain⟨g,z,c,h1,h2,h3⟩:=h;exact⟨g,z,c,hm _ _ h1,k _ (by decide) _ _ h2,h3.ak k hm hf d⟩
def eL(b:Nat)(pc:Int)(val fr app args top out:al)(st er a:Int)(c:ao):bc:= #[aD b,.int .i64 pc,val,fr,app,args,top,out,.int .i64 st,.int .i64 er,.int .i64 a,.string c]
def lC(w:aa)(B:Nat)(ow:Nat->Option Nat)(u:al)(o:List au):Prop:=w.ownsRow B 9 1 u o.length (o.map bO)/\(∀k,u.ownBlock=some k->ow k=some 0)/\o.length<=40
def A0(w:aa)(ow mo:Nat->Option Nat):Option (V×List V)->al->al->Prop
 |none,_,_=>True
 |some (p,a),x,u=>VX w mo p x/\∃xs,eV w mo a xs/\Rw w 81 (λk=>ow k=some 0) (λk=>ow k=some 0) u xs
structure RS(B K:Nat)(w:aa)(X:a9)(ow mo mf:Nat->Option Nat)(M b:Nat)(C:Cd)(s:MS)(val app args out:al)(top:a8)(gf:Nat):Prop where
 code:Code K w X b C
 val:OV w mo s.val val
 fr:mf s.fr=some gf
 app:A0 w ow mo s.app app args
 st:Ba w mo mf top s.st
 out:lC w B ow out s.out
 frs:∀i fr,s.frs[i]? =some fr->∃g d a e op xs,mf i=some g/\GC w X ow mo mf i fr g d a e op xs
 obs:∀k p,s.obs[k]? =some (some p)->Oa w X mo mf M C (2 *k) p
 mlt:∀i g,mo i=some g->g<w.heap.size
 mdm:∀k g,mo (2 *k)=some g->k<s.obs.length
 mcl:∀k g,mo (2 *k)=some g->∃c T,w.heap[g]? =some (Obj.cells c T (0,0))/\MT.contains T=false
 inj:∀i j g,mo i=some g->mo j=some g->i=j
 mcd:Le (jj K) mo
 fdm:∀i g,mf i=some g->i<s.frs.length
 owx:∀k t,ow k=some t->X k
 xty:mu w B X
 owM:ow M=some 0
 tab:Tab B w
 hB:B<=K
def MR(B K:Nat)(w:aa)(X:a9)(ow:Nat->Option Nat)(M b:Nat)(C:Cd)(s:MS):Prop:=
 ∃mo mf val app args out top gf,w.heap[M]? =some (Obj.cells (eL b s.pc val (aD gf) app args (.pointer top) out 0 0 0 ⟨#[]⟩) 119 (0,0))/\RS B K w X ow mo mf M b C s val app args out top gf
theorem A0.ak{w:aa}{a:Option (V×List V)}(k:aC 205 w w')(hm:Le mo mo')(ho:∀b c,ow b=some 0->w.heap[b]? =some (Obj.cells c 81 (0,0))->ow' b=some 0/\w'.heap[b]? =some (Obj.cells c 81 (0,0)))(h:A0 w ow mo a x u):A0 w' ow' mo' a x u:=by
 match a,h with
 |none,h=>exact h
 |some (p,l),⟨h1,xs,h2,h3⟩=>exact⟨VX.ak k hm _ _ h1,xs,eV.ak k hm _ _ h2,h3.imp ho ho⟩
theorem lC.ak{w:aa}(ho:∀b c,ow b=some 0->w.heap[b]? =some (Obj.cells c 9 (0,0))->ow' b=some 0/\w'.heap[b]? =some (Obj.cells c 9 (0,0)))(h:lC w B ow u o):lC w' B ow' u o:=by
 obtain⟨⟨j,h1⟩,h2,h3⟩:=h;rcases h1 with h1|⟨g,cap,f,e,m,q,r⟩
 .exact⟨⟨j,.inl h1⟩,(λk d=>by rw[h1.1] at d;cases d),h3⟩
 .have l:=ho g f (h2 g (by rw[e];rfl)) q;refine⟨⟨j,.inr ⟨g,cap,f,e,m,l.2,r⟩⟩,λk d=> ?_,h3⟩;rw[e] at d;cases d;exact l.1
theorem RS.d7{w:aa}{X:a9}{b:Nat}{val out:al}{top:a8}(h:RS B K w X ow mo mf M b C s val app args out top gf):B<=w.heap.size:=by
 obtain⟨c,u0,u1,u2,u3,x1,x3,d⟩:=h.code;exact ku h.hB d.lb
theorem RS.gen{w:aa}{X:a9}{b:Nat}{val out:al}{top:a8}(h:RS B K w X ow mo mf M b C s val app args out top gf)(d:aB S w w')(hS:∀k,S k->X k)(e:∀k,k<w.heap.size->X' k->X k)(v:ow' M=some 0)(A:∀k t,ow' k=some t->X' k)(q:∀k,X' k->(S k\/w.heap.size<=k)->∃c T,w'.heap[k]? =some (Obj.cells c T (0,0))/\MT.contains T=true)(a:Option (V×List V))(Ok args2:al)(I:A0 w' ow' mo a Ok args2)(o:List au)(out2:al)(ho:lC w' B ow' out2 o)(fs:List Fr)(y:fs.length=s.frs.length)(z:∀i fr,fs[i]? =some fr->∃g pn nv vv op xs,mf i=some g/\GC w' X' ow' mo mf i fr g pn nv vv op xs):
  RS B K w' X' ow' mo mf M b C {s with app:=a,out:=o,frs:=fs} val Ok args2 out2 top gf:=by
 have D:mu w B S:=λk J=>h.xty k (hS k J);have k:=KI.aT D d;have G:∀b,b<w.heap.size->¬X b->¬X' b/\w'.heap[b]? =w.heap[b]?:=λb hb E=>⟨λr=>E (e b hb r),d.block b hb (λr=>E (hS b r))⟩;have H:M<w.heap.size:=by obtain⟨_,c,T,h1,_⟩:=h.xty M (h.owx M 0 h.owM);exact ai h1
 refine⟨h.code.ak k d.size G,OV.ak (k _ (by decide)) (TV _) _ _ h.val,h.fr,I,h.st.ak (k _ (by decide)) (k _ (by decide)) (k _ (by decide)) (TV _) (TV _),ho,z,λj p hp=>(h.obs j p hp).ak k (TV _) (TV _) G,λi g f=>gr (h.mlt i g f) d.size,h.mdm,λi g f=>(by obtain⟨c,T,h1,h2⟩:=h.mcl i g f;exact⟨c,T,k T h2 _ _ h1,h2⟩),h.inj,h.mcd,λi g f=>by rw[y];exact h.fdm i g f,A,λj m=> ?_,v,h.tab.below (d.below h.d7 λj m=>(h.xty j (hS j m)).1),h.hB⟩;rcases sb j w.heap.size with hlt|l
 .have:=h.xty j (e j hlt m);refine⟨this.1,?_⟩;by_cases F:S j
  .exact q j m (.inl F)
  .rw[d.block j hlt F];exact this.2
 .exact⟨ku h.d7 l,q j m (.inr l)⟩
theorem RS.ext'{w:aa}{X:a9}{b:Nat}{val out:al}{top:a8}{c:bc}(h:RS B K w X ow mo mf M b C s val app args out top gf)(D:w.heap[M]? =some (Obj.cells c 119 (0,0)))(q:aB (λk=>k=M) w w')(r:w'.heap[M]? =some (Obj.cells c' 119 (0,0)))(H:∀k,X k->X' k)(f:∀k,k<w.heap.size->X' k->X k)(m:∀k,k<w.heap.size->ow' k=ow k)(v:∀k t,ow' k=some t->X' k)(A:∀k,X' k->w.heap.size<=k->∃c T,w'.heap[k]? =some (Obj.cells c T (0,0))/\MT.contains T=true):
  RS B K w' X' ow' mo mf M b C s val app args out top gf:=by
 have j:=h.owx M 0 h.owM;have d:∀b c T,T≠119->w.heap[b]? =some (Obj.cells c T (0,0))->w'.heap[b]? =some (Obj.cells c T (0,0)):=λb c T G hb=>by
  rw[q.block b (ai hb) (λe=>by subst e;rw[D] at hb;cases hb;exact G rfl)];exact hb
 exact h.gen q (λk e=>by subst e;exact j) f (by rw[m M (ai D)];exact h.owM) v (λk d y=>by
   rcases y with e|y
   .subst e;exact⟨_,_,r,by decide⟩
   .exact A k d y) s.app app args (h.app.ak (λb c hb=>d b c _ (by decide) hb) (TV _) λb c hb l=>⟨by rw[m b (ai l)];exact hb,d b c _ (by decide) l⟩) s.out out (h.out.ak λb c hb l=>⟨by rw[m b (ai l)];exact hb,d b c _ (by decide) l⟩) s.frs rfl
  (λi fr hi=>by
   obtain⟨g,pn,nv,vv,op,xs,h1,h2⟩:=h.frs i fr hi;refine⟨g,pn,nv,vv,op,xs,h1,h2.ak (λb c hb=>d b c _ (by decide) hb) (TV _) (TV _) (λb hb z=>⟨by rw[m b hb];exact z,q.block b hb λe=>by subst e;rw[h.owM] at z;cases z⟩) (λb hb E=>⟨λF=>E (f b hb F),q.block b hb λe=>by subst e;exact E j⟩)⟩)
theorem RS.ext{w:aa}{X:a9}{b:Nat}{val out:al}{top:a8}{c:bc}(h:RS B K w X ow mo mf M b C s val app args out top gf)(e:w.heap[M]? =some (.cells c 119))(l:aB (λk=>k=M) w w')(d:w'.heap[M]? =some (.cells c' 119)):
  RS B K w' X ow mo mf M b C s val app args out top gf:=
 h.ext' e l d (λ_ h=>h) (λ_ _ h=>h) (λ_ _=>rfl) h.owx (λk j f=>by
  obtain⟨_,c,T,h1,_⟩:=h.xty k j;exact absurd (ai h1) (by omega))
theorem RS.below{w:aa}{X:a9}{b:Nat}{val out:al}{top:a8}{c:bc}(h:RS B K w X ow mo mf M b C s val app args out top gf)(d:w.heap[M]? =some (.cells c 119))(hb:Below w.heap.size w w'):RS B K w' X ow mo mf M b C s val app args out top gf:=
 h.ext d (TW _ hb) (by rw[hb.block M (ai d)];exact d)
def gU(m:Nat->Option Nat)(i g:Nat):Nat->Option Nat:=λj=>if j=i then some g else m j
theorem ey(m:Nat->Option Nat)(i g:Nat):gU m i g i=some g:=by simp[gU]
theorem fS(m:Nat->Option Nat)(i g:Nat)(h:m i=none):Le m (gU m i g):=λj x b=>by
 unfold gU;split
 .rename_i e;subst e;rw[h] at b;cases b
 .exact b
theorem RS.obj{w:aa}{X:a9}{b:Nat}{val out:al}{top:a8}(h:RS B K w X ow mo mf M b C s val app args out top gf)(g:Nat)(v:g<w.heap.size)(hf:∀i,mo i≠some g)(r:∃c T,w.heap[g]? =some (Obj.cells c T (0,0))/\MT.contains T=false)(x:Option PK)(z:∀p,x=some p->Oa w X (gU mo (2 *s.obs.length) g) mf M C (2 *s.obs.length) p):
  RS B K w X ow (gU mo (2 *s.obs.length) g) mf M b C {s with obs:=s.obs++[x]} val app args out top gf:=by
 have q:mo (2 *s.obs.length)=none:=by
  cases e:mo (2 *s.obs.length) with
  |none=>rfl
  |some f=>exact absurd (h.mdm _ _ e) (by omega)
 have l:=fS mo _ g q;have A:=KI.refl w;refine⟨h.code,OV.ak (TY _) l _ _ h.val,h.fr,h.app.ak (TY _) l (λb c hb t=>⟨hb,t⟩),h.st.ak (TY _) (TY _) (TY _) l (TV _),h.out,λi fr hi=> ?_,λj p hp=> ?_,λi f d=> ?_,λi f d=> ?_,λi f d=> ?_,λi j f hi k=> ?_,h.mcd.trans l,h.fdm,h.owx,h.xty,h.owM,h.tab,h.hB⟩
 .obtain⟨f,pn,nv,vv,op,xs,h1,h2⟩:=h.frs i fr hi;exact⟨f,pn,nv,vv,op,xs,h1,h2.ak (TY _) l (TV _) (λb hb y=>⟨y,rfl⟩) (λb hb q=>⟨q,rfl⟩)⟩
 .have hp:(s.obs++[x])[j]? =some (some p):=hp;rcases sb j s.obs.length with hlt|m
  .rw[o5 hlt] at hp;exact(h.obs j p hp).ak A l (TV _) (λb hb q=>⟨q,rfl⟩)
  .rw[s7 m] at hp;have k:j=s.obs.length:=by
    rcases Nat.eq_or_lt_of_le m with e|e
    .exact e.symm
    .rw[CC (by simp;omega)] at hp;cases hp
   subst k;rw[SQ] at hp;have hp:x=some p:=by simpa using hp
   exact z p hp
 .unfold gU at d;split at d
  .cases d;exact v
  .exact h.mlt i f d
 .show i<(s.obs++[x]).length;rw[ga,Ix];unfold gU at d;split at d
  .omega
  .have:=h.mdm i f d;omega
 .unfold gU at d;split at d
  .cases d;exact r
  .exact h.mcl i f d
 .unfold gU at hi k;split at hi
  .split at k
   .omega
   .cases hi;exact absurd k (hf j)
  .split at k
   .cases k;exact absurd hi (hf i)
   .exact h.inj i j f hi k
theorem RS.frame{w:aa}{X:a9}{b:Nat}{val out:al}{top:a8}(h:RS B K w X ow mo mf M b C s val app args out top gf)(g:Nat)(fr:Fr)(pn:ao)(nv vv:al)(op:a8)(xs:a7)(D:GC w X ow mo (gU mf s.frs.length g) s.frs.length fr g pn nv vv op xs):
  RS B K w X ow mo (gU mf s.frs.length g) M b C {s with frs:=s.frs++[fr]} val app args out top gf:=by
 have l:mf s.frs.length=none:=by
  cases e:mf s.frs.length with
  |none=>rfl
  |some m=>exact absurd (h.fdm _ _ e) (by omega)
 have k:=fS mf _ g l;refine⟨h.code,h.val,k _ _ h.fr,h.app,h.st.ak (TY _) (TY _) (TY _) (TV _) k,h.out,λi c hi=> ?_,λj p hp=>(h.obs j p hp).ak (KI.refl w) (TV _) k (λb hb l=>⟨l,rfl⟩),h.mlt,h.mdm,h.mcl,h.inj,h.mcd,λi m d=> ?_,h.owx,h.xty,h.owM,h.tab,h.hB⟩
 .have hi:(s.frs++[fr])[i]? =some c:=hi;rcases sb i s.frs.length with hlt|f
  .rw[o5 hlt] at hi;obtain⟨m,t,q,v,r,y,h1,h2⟩:=h.frs i c hi;exact⟨m,t,q,v,r,y,k _ _ h1,h2.ak (TY _) (TV _) k (λb hb A=>⟨A,rfl⟩) (λb hb l=>⟨l,rfl⟩)⟩
  .rw[s7 f] at hi;have z:i=s.frs.length:=by
    rcases Nat.eq_or_lt_of_le f with e|e
    .exact e.symm
    .rw[CC (by simp;omega)] at hi;cases hi
   subst z;rw[SQ] at hi;have hi:fr=c:=by simpa using hi
   subst hi;exact⟨g,pn,nv,vv,op,xs,ey _ _ _,D⟩
 .show i<(s.frs++[fr]).length;rw[ga,Ix];unfold gU at d;split at d
  .omega
  .have:=h.fdm i m d;omega
theorem RS.Qq{w:aa}{X:a9}{b:Nat}{val out:al}{top:a8}(h:RS B K w X ow mo mf M b C s val app args out top gf)(i:Nat)(fr:Fr)(hi:i<s.frs.length)(r:aB (λk=>ow k=some (i+1)) w w')(f:∀k,k<w.heap.size->X' k->X k)(m:∀k,k<w.heap.size->ow k≠some (i+1)->ow' k=ow k)(E:∀k t,ow' k=some t->X' k)(G:∀k,X' k->(ow k=some (i+1)\/w.heap.size<=k)->∃c T,w'.heap[k]? =some (Obj.cells c T (0,0))/\MT.contains T=true)(A:∃g pn nv vv op xs,mf i=some g/\GC w' X' ow' mo mf i fr g pn nv vv op xs):
  RS B K w' X' ow' mo mf M b C {s with frs:=s.frs.set i fr} val app args out top gf:=by
 have F:mu w B (λk=>ow k=some (i+1)):=λk D=>h.xty k (h.owx k _ D);have k:=KI.aT F r;have y:∀b,b<w.heap.size->∀t,t≠i+1->ow b=some t->w'.heap[b]? =w.heap[b]?:=λb hb t J l=>r.block b hb (λe=>by rw[l] at e;exact J (by simpa using e));have z:M<w.heap.size:=by obtain⟨_,c,T,h1,_⟩:=h.xty M (h.owx M 0 h.owM);exact ai h1
 refine h.gen r (λk D=>h.owx k _ D) f (by rw[m M z (by rw[h.owM];simp)];exact h.owM) E G s.app app args (h.app.ak (k _ (by decide)) (TV _) λb c hb d=>⟨by rw[m b (ai d) (by rw[hb];simp)];exact hb,by rw[y b (ai d) 0 (by omega) hb];exact d⟩) s.out out (h.out.ak λb c hb d=>⟨by rw[m b (ai d) (by rw[hb];simp)];exact hb,by rw[y b (ai d) 0 (by omega) hb];exact d⟩) _ (by simp) (λj v q=> ?_);by_cases e:j=i
 .subst e;rw[QK hi] at q;cases q;exact A
 .rw[PV (by omega)] at q;obtain⟨g,pn,nv,vv,op,xs,h1,h2⟩:=h.frs j v q;exact⟨g,pn,nv,vv,op,xs,h1,h2.ak (k _ (by decide)) (TV _) (TV _) (λb hb l=>⟨by rw[m b hb (by rw[l];simp;omega)];exact l,y b hb (j+1) (by omega) l⟩) (λb hb H=>⟨λI=>H (f b hb I),r.block b hb λe=>H (h.owx b _ e)⟩)⟩
def BZ(l:List Int)(n:Int):Int:=match dU l n with
 |some i=>i
 |none=> -1
theorem DJ{l:List Int}{n:Int}(h:dU l n=some i):i<l.length:=by
 unfold dU at h;split at h
 .rename_i b
  cases h;exact Sv (Su.1 b)
 .cases h
theorem rI:∀(l:List Int) (x:Int) (i:Nat),Lib.idxFrom l x i=if l.contains x then((i+l.idxOf x:Nat):Int) else-1
 |[],x,i=>rfl
 |z::c,x,i=>by
  by_cases h:z=x
  .subst h;simp[Lib.idxFrom]
  .have b:¬x=z:=λe=>h e.symm;have hb:(z==x)=false:=by simp[h]
   rw[Lib.idxFrom,rI c x (i+1)];simp only[h,SI,R5,Sb,hb,TA];have:(x==z)=false:=by simp[b]
   simp only[this,Ti];split
   .congr 1;omega
   .rfl
theorem idx_eq(l:List Int)(n:Int):Lib.idxOf l n=BZ l n:=by
 unfold Lib.idxOf BZ dU;rw[rI];split
 .simp
 .rfl
theorem zm{w:aa}{own sh:a9}{l:List Int}(h:Rw w 3 own sh u (l.map (Value.int .i64)))(n:Int)(q:l.length<=1000000):
  cl 177 #[u,Jn n] w λe w'=>e=.returned (Jn (BZ l n))/\w'=w:=by
 rcases h with⟨rfl,b⟩|⟨g,off,cap,d,rfl,h2,f,h3,k,m⟩
 .have:l=[]:=by simpa using b
  subst this;have:=slices_Index_int_empty none 0 n w;rw[idx_eq] at this;exact this
 .simp only[ta] at *;have:=slices_Index_int g off l.length cap l n w (ew _) (by omega) (λj c=>by
   unfold Cl;rw[ae h3,<-C1];have b:((d.toList.drop off).take l.length)[j]? =some (Jn (l.getD j 0)):=by rw[k];simp[c]
   rw[Bk,fN c,Sn] at b;exact b)
  rw[xp,idx_eq] at this;exact this
theorem BR(ho:∀(i:Nat) (fr:Fr) (j:Nat),frs[i]? =some fr->fr.out=some j->j<i)(n:Int):∀(i k:Nat),i<=k->fZ frs (k+1) i n=fZ frs (i+1) i n:=by
 intro i;induction i using Nat.strongRecOn with
 |_ i d=>
  intro k e;rw[fZ,fZ];cases hf:frs[i]? with
  |none=>rfl
  |some fr=>
   simp only[];cases dU fr.ns n with
   |some j=>rfl
   |none=>
    simp only[];cases hj:fr.out with
    |none=>rfl
    |some j=>
     have b:=ho i fr j hf hj;simp only[];obtain⟨c,rfl⟩:∃c,k=c+1:=⟨k-1,by omega⟩;obtain⟨i',rfl⟩:∃i',i=i'+1:=⟨i-1,by omega⟩;rw[d j b c (by omega),d j b i' (by omega)]
def xZ(w:aa)(X:a9)(ow mo mf:Nat->Option Nat)(s:MS)(r:Option (Nat×Nat))(e:bo)(w':aa):Prop:=
 w'=w/\match r with
  |none=>e=.returned (.pointer none)
  |some (f,j)=>∃fr g h d c a b op xs,s.frs[f]? =some fr/\mf f=some g/\GC w X ow mo mf f fr g h d (.slice (some ⟨c,a,none⟩) xs.length b) op xs/\j<xs.length/\e=.returned (.pointer (some ⟨c,a+j,none⟩))
def vB(mf:Nat->Option Nat)(s:MS)(n:Int)(r:Option (Nat×Nat)):a8->Prop
 |none=>r=none
 |some a=>∃i,i<s.frs.length/\mf i=some a.block/\a=⟨a.block,0,none⟩/\fZ s.frs (i+1) i n=r
def Ip(ow:Nat->Option Nat):al->Nat
 |.pointer (some a)=>(ow a.block).getD 0
 |_=>0
theorem DF{w:aa}{X:a9}{b:Nat}{val out:al}{top:a8}(h:RS B K w X ow mo mf M b C s val app args out top gf)(i g:Nat)(hi:i<s.frs.length)(F:mf i=some g)(n:Int):
  cl 191 #[Pt g,Jn n] w (xZ w X ow mo mf s (fZ s.frs (i+1) i n)):=by
 have v:=ag h.frs;have V:Hid (∀(i:Nat) (fr:Fr) (j:Nat),s.frs[i]? =some fr->fr.out=some j->j<i):=by
  intro i fr j hi R;obtain⟨g,pn,nv,vv,op,xs,_,hf⟩:=h.frs i fr hi;have:=hf.out;rw[R] at this;exact this.1
 obtain⟨r,d⟩:∃r,r=fZ s.frs (i+1) i n:=⟨_,rfl⟩;rw[<-d];have W:=ag (show vB mf s n r (eb g) from⟨i,hi,F,rfl,d.symm⟩);clear h hi F d;go_enter func191,ntmps191;go_wp2
 go_loopw [0] (λp wr=>∃q,p=.pointer q/\w=wr/\vB mf s n r q) (λp _=>Ip ow p)
 case atStart=>exact⟨_,rfl,rfl,W.out⟩
 case round=>
  obtain⟨q,rfl,rfl,hrel⟩:=hrel
  match q,hrel with
  |none,d=>
   have d:r=none:=d;subst d;go_wp2;go_ret;exact⟨rfl,rfl⟩
  |some a,⟨i,hi,hm,ha,d⟩=>
   obtain⟨ab,rfl⟩:∃ab,a=(dq ab 0):=⟨_,ha⟩;have hm:mf i=some ab:=hm;obtain⟨fr,l⟩:∃fr,s.frs[i]? =some fr:=⟨s.frs[i],by simp[hi]⟩;obtain⟨g,pn,nv,vv,op,xs,F,f⟩:=v.out i fr l;rw[hm] at F;cases F;have hS:=f.hS;have c1:=ae hS 1;have c2:=ae hS 2;have c3:=ae hS 3;simp only[fD,fy,km] at c1 c2 c3;have t:=zm f.nr n f.le;obtain⟨an,capn,h0,_,_,_⟩:=f.nr.at;subst h0;obtain⟨U,z⟩:∃U,(fr.ns.map (Value.int .i64)).length=U:=⟨_,rfl⟩;rw[z] at c1 t;have y:=ag t;clear t;obtain⟨av,capv,h5,J,L,N,A⟩:=f.vr.at;subst h5;have D:xs.length=fr.ns.length:=by rw[f.len];exact f.vs.length.symm
   have I:=f.le;cases hix:dU fr.ns n with
   |some j=>
    have R:j<xs.length:=by rw[D];exact DJ hix
    obtain⟨gv,off,c,rfl,_,_,Z⟩:=A j R;have m:Hid (cl 177 #[.slice an U capn,Jn n] w λe w'=>e=.returned (Jn (j:Int))/\w'=w):=by
     have:=y.out;unfold BZ at this;rw[hix] at this;exact this
    have O:Hid (xZ w X ow mo mf s r (.returned (.pointer (some (dq gv (off+j))))) w):=by
     have h4:r=some (i,j):=by rw[<-d,fZ,l];simp only[hix]
     subst h4;exact⟨rfl,fr,ab,pn,_,gv,off,capv,op,xs,l,hm,f,R,rfl⟩
    have h7:(j:Int)<(xs.length:Int):=by omega
    have h6:xs.length<=1000000:=by omega
    clear f hS J L N A D I d l y hix z v V W;go_wp2_with fail;refine m.out.mono ?_;rintro e w1 ⟨rfl,rfl⟩;go_wp2;go_ret;exact O.out
   |none=>
    have m:Hid (cl 177 #[.slice an U capn,Jn n] w λe w'=>e=.returned (Jn (-1))/\w'=w):=by
     have:=y.out;unfold BZ at this;rw[hix] at this;exact this
    have O:Hid (vB mf s n r op/\Ip ow (.pointer op)<Ip ow (Pt ab)):=by
     have ho:=f.out;have ht:=f.tag;rw[fZ,l] at d;simp only[hix] at d
     revert ho d
     cases hfo:fr.out with
     |none=>
      intro ho d;have ho:op=none:=ho;subst ho;refine⟨d.symm,?_⟩;show 0<(ow ab).getD 0;rw[ht];simp
     |some k=>
      rintro⟨h1,gk,h2,h3⟩ d;subst h3;have H:k<s.frs.length:=by omega
      obtain⟨frk,E⟩:∃fr,s.frs[k]? =some fr:=⟨s.frs[k],by simp[H]⟩;obtain⟨g2,pn2,nv2,vv2,op2,xs2,G,Y⟩:=v.out k frk E;rw[h2] at G;cases G;refine⟨⟨k,H,h2,rfl,?_⟩,?_⟩
      .have d:fZ s.frs i k n=r:=d;obtain⟨i',rfl⟩:∃i',i=i'+1:=⟨i-1,by omega⟩;rw[BR V.out n k i' (by omega)] at d;exact d
      .show(ow gk).getD 0<(ow ab).getD 0;rw[ht,Y.tag];simp;omega
    clear f hS J L N A D I d l y hix z v V W;go_wp2_with fail;refine m.out.mono ?_;rintro e w1 ⟨rfl,rfl⟩;go_wp2;go_roundw
    case rel=>exact⟨_,rfl,trivial,O.out.1⟩
    case measure=>exact O.out.2
theorem Rw.alloc{w:aa}{own sh:a9}(h:Rw w T own sh u xs)(o:Obj):Rw (w.alloc o) T own sh u xs:=
 h.imp (λg c d b=>⟨d,by rw[tm _ _ _ (ai b)];exact b⟩) (λg c d b=>⟨d,by rw[tm _ _ _ (ai b)];exact b⟩)
theorem Jl{w:aa}{T s:Nat}(h:w.ownsRow B T s u n xs):w.ownsRow 0 T s u n xs:=by
 obtain⟨b,h|⟨g,cap,c,h1,h2,h3⟩⟩:=h
 .exact⟨b,.inl h⟩
 .exact⟨b,.inr ⟨g,cap,c,h1,kc _,h3⟩⟩
theorem tN(w:aa)(t ty:bi)(e:bi)(i:TypeInfo)(z:al)(bytes:Nat)(N:P.underlying t=some (.slice e))(hi:P.info? e=some i)(O:i.zero=some z)(f:i.size=1)(q:i.bytes=bytes)(D:z.cells.size=1){own sh:a9}(u:al)(xs:a7)(h:Rw w e own sh u xs)(E:Addr)(c:Nat)(y:al)(Y:w.cell? E=some y)(h1:y.oneCell'=true)(m:xs.length+1<=maxLen)(b:(xs.length+1) *bytes<=140737488355328):
  ∃g cap w',(Builtin.append_ #[t,t] ty #[u,.slice (some E) 1 c]).run P w=.ok (.slice (eb g) (xs.length+1) cap) w'/\
   w'.ownsRow 0 e 1 (.slice (eb g) (xs.length+1) cap) (xs.length+1) (xs++[y])/\aB (λk=>own k/\u.ownBlock=some k) w w'/\(own g/\u.ownBlock=some g\/w.heap.size<=g)/\g<w'.heap.size:=by
 have d:∀j v,([y]:a7)[j]? =some v->w.cell? (E.add j)=some v:=λj v F=>by
  cases j with
  |zero=>cases F;simpa[Addr.add] using Y
  |succ j=>simp at F
 have G:∀v∈[y],v.oneCell'=true:=λv U=>by simp at U;subst U;exact h1
 rcases h with⟨rfl,rfl⟩|⟨I,off,cap0,V,h2,h3,J,R,L,W⟩
 .obtain⟨g,cap,w',r1,r2,r3,l,r5⟩:=Tt (P:=P) w t ty 0 e i z 1 bytes N hi O f q D (by decide) (.slice none 0 0) 0 [] (oh w _ e 1) E 1 c [y] rfl d G (by decide) (by simpa using m) (by simpa using b) (kc _) _ rfl;refine⟨g,cap,w',by simpa using r1,by simpa using r2,(TU _ w).grown r3 (λk r=>by cases r),.inr ?_,r5⟩;rcases l with l|l
  .cases l
  .omega
 .rcases W with⟨ho,rfl,X⟩|⟨Z,X⟩
  .have H:w.ownsRow 0 e 1 u xs.length xs:=⟨by simp,.inr ⟨I,cap0,V,h2,kc _,R,h3,J,by omega,by rw[S9];rw[RQ] at L;exact L⟩⟩;obtain⟨g,cap,w',r1,r2,r3,l,r5⟩:=Tt (P:=P) w t ty 0 e i z 1 bytes N hi O f q D (by decide) u xs.length xs H E 1 c [y] rfl d G (by decide) m b (kc _) _ rfl;refine⟨g,cap,w',r1,r2,(TU _ w).grown r3 (λk r _=>⟨?_,r⟩),?_,r5⟩
   .rw[h2] at r;cases r;exact ho
   .rcases l with l|l
    .exact .inl ⟨by rw[h2] at l;cases l;exact ho,l⟩
    .exact .inr (by omega)
  .subst h2;have A:∀j v,xs[j]? =some v->w.cell? (((dq I off):Addr).add j)=some v:=λj v F=>by
    have hlt:j<xs.length:=(ke.1 F).1;rw[Tq,ae R,<-C1];rw[<-L,Bk,fN hlt,Sn] at F;exact F
   obtain⟨v',w',r1,r2,r3⟩:=run_append_arg_grows (P:=P) w t ty e i z 1 bytes N hi O f q D (by decide) (dq I off) xs.length cap0 xs (by simp) A E 1 c [y] rfl d (by omega) m b;obtain⟨g,cap,rfl,l,r5⟩:=r2.form (by omega);exact⟨g,cap,w',r1,Jl r2,(TU _ w).grown r3 (λk r=>by cases r),.inr l,r5⟩
theorem jz(w:aa){o:Oper}{a:Act}(q:o.guard=none)(s x:Operand)(t:bi)(ho:o.op=.call {callee:=.builtin .append,args:= #[s,x],argTypes:= #[t,t]})(e:bi)(i:TypeInfo)(z:al)(bytes:Nat)(D:P.underlying t=some (.slice e))(hi:P.info? e=some i)(G:i.zero=some z)(d:i.size=1)(m:i.bytes=bytes)(r:z.cells.size=1){own sh:a9}(u:al)(xs:a7)(A:a.eval s=u)(h:Rw w e own sh u xs)(f:Addr)(c:Nat)(y:al)(E:a.eval x=.slice (some f) 1 c)(F:w.cell? f=some y)(h1:y.oneCell'=true)(j:xs.length+1<=maxLen)(b:(xs.length+1) *bytes<=140737488355328)(v:∀g cap w',w'.ownsRow 0 e 1 (.slice (eb g) (xs.length+1) cap) (xs.length+1) (xs++[y])->aB (λk=>own k/\u.ownBlock=some k) w w'->(own g/\u.ownBlock=some g\/w.heap.size<=g)->g<w'.heap.size->wpList P ops Q rest (a.put o.dst (.slice (eb g) (xs.length+1) cap)) w'):
  wpList P ops Q (o::rest) a w:=by
 refine wpList_plain q λK l=> ?_;obtain⟨g,cap,w',r1,r2,r3,H,r5⟩:=tN (P:=P) w t o.type e i z bytes D hi G d m r u xs h f c y F h1 j b;unfold Oper.wp;simp[execOp,ho,resolve,invoke,builtin,A,E,r1,Result.andThen];exact l _ _ (v g cap w' r2 r3 H r5)
theorem IE:(prog.info? 3).map (λi=>(i.zero,i.size,i.bytes))=some (some (Jn 0),1,8):=by kernel_rfl
def ja(w:aa)(X:a9)(ow:Nat->Option Nat)(i g:Nat)(fr:Fr)(h:ao)(op:a8)(xs:a7)(n:Int)(x:al)(e:bo)(w':aa):Prop:=
 e=.returned (.tuple #[])/\aB (λk=>ow k=some (i+1)) w w'/\∃b c a,w'.heap[g]? =some (Obj.cells #[.string h,b,c,.pointer op] 176 (0,0))/\
  (match dU fr.ns n with
   |some j=>a=xs.set j x/\Rw w' 3 (λk=>ow k=some (i+1)) (λk=>¬X k) b (fr.ns.map (Value.int .i64))/\Rw w' 81 (λk=>ow k=some (i+1)) (λk=>ow k=some (i+1)) c a
   |none=>a=xs++[x]/\(∃d f,(ow d=some (i+1)\/w.heap.size<=d)/\(ow f=some (i+1)\/w.heap.size<=f)/\b.ownBlock=some d/\c.ownBlock=some f/\w'.ownsRow 0 3 1 b (fr.ns.length+1) ((fr.ns++[n]).map (Value.int .i64))/\w'.ownsRow 0 81 1 c (xs.length+1) a))
theorem Rw.ak{w:aa}{own sh:a9}(h:Rw w T own sh u xs)(k:aC T w w'):Rw w' T own sh u xs:=h.imp (λg c d b=>⟨d,k g c b⟩) (λg c d b=>⟨d,k g c b⟩)
theorem Rw.uD{w:aa}{own sh:a9}(h:Rw w T own sh u xs)(f:aB (λk=>own k/\u.ownBlock=some k) w w1)(b:T'≠T):aC T' w w1:=
 T1 f λk c e d=>by
  rcases h with⟨rfl,_⟩|⟨g,off,cap,j,rfl,_,_,h3,_⟩
  .cases e.2
  .have:g=k:=by have:=e.2;simp[Value.ownBlock] at this;exact this
   subst this;rw[h3] at d;cases d;exact b rfl
theorem rT(T:bi)(w:aa)(o:Obj):aC T w (w.alloc o):=λb c h=>by rw[tm _ _ _ (ai h)];exact h
theorem uk{w:aa}{X:a9}{fr:Fr}(h:GC w X ow mo mf i fr g pn nv vv op xs)(F:∀k t,ow k=some t->X k)(n:Int)(t:bi)(y:al)(hD:fr.ns.length<1000000):
  cl 102 #[Pt g,Jn n,.iface t y] w (ja w X ow i g fr pn op xs n (.iface t y)):=by
 have hS:=h.hS;have c1:=ae hS 1;have c2:=ae hS 2;have f1:=ah hS 1;have f2:=ah hS 2;simp only[fD,fy,km] at c1 c2;have d:=zm h.nr n h.le;obtain⟨an,capn,hs,hr,hE,hF,h7⟩:=h.nr.at;have J:=ag h.nr;have N:=ag h.vr;subst hs;obtain⟨av,capv,ht,hG,hH,hI,V⟩:=h.vr.at;subst ht;have G:xs.length=fr.ns.length:=by rw[h.len];exact h.vs.length.symm
 obtain⟨H,r⟩:∃H,(fr.ns.map (Value.int .i64)).length=H:=⟨_,rfl⟩;have z:H=fr.ns.length:=by rw[<-r,ta]
 rw[r] at c1 d hr hS;have HNR':Hid (Rw w 3 (λk=>ow k=some (i+1)) (λk=>¬X k) (.slice an H capn) (fr.ns.map (Value.int .i64))):=by rw[<-r];exact J.out
 have HT:=ag h.tag;have hA:=ag G;have hy:=ag z;have L:=ag hS;have hB:=ai hS;cases hix:dU fr.ns n with
 |some j=>
  have hj:j<xs.length:=by rw[G];exact DJ hix
  obtain⟨gv,off,c,rfl,E,q,hq⟩:=V j hj;have E:ow gv=some (i+1):=E.elim id id;have fz:=ah q (off+j);have m:Hid (cl 177 #[.slice an H capn,Jn n] w λe w'=>e=.returned (Jn (j:Int))/\w'=w):=by
   have:=d;unfold BZ at this;rw[hix] at this;exact this
  have h2:g≠gv:=λe=>by subst e;rw[hS] at q;cases q
  have HP:Hid (ja w X ow i g fr pn op xs n (.iface t y) (.returned (.tuple #[])) (w.setCell (dq gv (off+j)) (.iface t y))):=by
   refine⟨rfl,(TU _ w).setCell _ _ (λ_=>E),.slice an H capn,.slice (some (dq gv off)) xs.length capv,xs.set j (.iface t y),by rw[bQ L.out h2],?_⟩;rw[hix];refine⟨rfl,HNR'.out.imp (λb cc hb hc=>⟨hb,?_⟩) (λb cc hb hc=>⟨hb,?_⟩),N.out.put j _ hj⟩
   .rw[bQ hc (λe=>by subst e;rw[q] at hc;cases hc)]
   .rw[bQ hc (λe=>by subst e;exact hb (F _ _ E))]
  have hC:(j:Int)<(xs.length:Int):=by omega
  have h8:xs.length<=1000000:=by omega
  clear h hS h7 V d J N HNR' L F q r z hix G;go_enter func102,ntmps102;go_wp2_with fail;refine m.out.mono ?_;rintro e w1 ⟨rfl,rfl⟩;go_wp2;refine TT ?_;exact HP.out
 |none=>
  have m:Hid (cl 177 #[.slice an H capn,Jn n] w λe w'=>e=.returned (Jn (-1))/\w'=w):=by
   have:=d;unfold BZ at this;rw[hix] at this;exact this
  obtain⟨i1,h3,he,hf,hg⟩:=sv IE;obtain⟨i2,h4,h9,ha,hd⟩:=sv jQ;have I:=ag (ei h3 (ei he (ei hf (ei hg (ei h4 (ei h9 (ei ha hd)))))));have hk:=ag hix;have hz:=ag F;have hw:H+1<=1000000:=by omega
  have h8:xs.length+1<=1000000:=by omega
  clear h hS h7 V d J F r z G hix h3 he hf hg h4 h9 ha hd;go_enter func102,ntmps102;go_wp2_with fail;refine m.out.mono ?_;rintro e w0 ⟨rfl,hu⟩;obtain rfl:w=w0:=hu.symm;go_wp2_with (at_builtin;go_loud (refine jz _ rfl (.tmp 26) (.tmp 28) 30 rfl 3 i1 (Jn 0) 8 underlying30 I.out.1 I.out.2.1 I.out.2.2.1 I.out.2.2.2.1 rfl (.slice an H capn) (fr.ns.map (Value.int .i64)) rfl (HNR'.out.alloc _) (dq w.heap.size 0) 1 (Jn n) rfl ((Cb _ _ _ _ (by simp)).trans rfl) rfl (by simp;unfold maxLen;omega) (by simp;omega) ?_));intro g1 cap1 w1 A R h0 h5;have kp1:∀T',T'≠3->aC T' w w1:=λT' hT=>(rT T' w _).trans ((HNR'.out.alloc _).uD R hT);have f:=kp1 176 (by decide) _ _ L.out;have Y:=ag (show aB (λk=>ow k=some (i+1)) w w1 from((TU _ w).alloc _).trans R (λj hj h=>h.1));have hh:=ag (show ow g1=some (i+1)\/w.heap.size<=g1 from h0.imp (λh=>h.1) (λh=>by first|omega|(simp at h;omega)));have hm:=ag A;have hp:=ag (N.out.ak (kp1 81 (by decide)));have W:=ag f;have d1:=ae f 1;have d2:=ae f 2;simp only[fD,fy,km] at d1 d2;have e1:=ah f 1;have e2:=ah f 2;have hv:=ai f;have hx:w.heap.size<=w1.heap.size:=Y.out.size;clear A R h0 h5 kp1 f;have kp2:∀T' v,T'≠176->aC T' w1 (w1.setCell (dq g 1) v):=λT' v hT=>aK W.out hT;have Z:=ag (λv=>hp.out.ak (kp2 81 v (by decide)));have hn:=ag (λv=>aA (kp2 3 v (by decide)) hm.out);clear kp2;go_wp2_with (at_builtin;go_loud (refine jz _ rfl (.tmp 36) (.tmp 38) 76 rfl 81 i2 .nilIface 16 underlying76 I.out.2.2.2.2.1 I.out.2.2.2.2.2.1 I.out.2.2.2.2.2.2.1 I.out.2.2.2.2.2.2.2 rfl (.slice av xs.length capv) xs rfl ((Z.out _).alloc _) (dq w1.heap.size 0) 1 (.iface t y) rfl ((Cb _ _ _ _ (by simp)).trans rfl) rfl (by unfold maxLen;omega) (by omega) ?_));intro g2 cap2 w2 D U h1 h6;have ho:=ag (show aB (λk=>ow k=some (i+1)) w w2 from(((Y.out.setCell (dq g 1) (.slice (eb g1) (fr.ns.length+1) cap1) (λ_=>HT.out)).alloc _).trans U (λj hj h=>h.1)));have O:∀T',T'≠81->aC T' (w1.setCell (dq g 1) (.slice (eb g1) (fr.ns.length+1) cap1)) w2:=λT' hT=>(rT T' _ _).trans (((Z.out _).alloc _).uD U hT);have l:=O 176 (by decide) _ _ (TH W.out);have hl:=ag (aA (O 3 (by decide)) (hn.out _));have hi:=ag (show ow g2=some (i+1)\/w.heap.size<=g2 from h1.imp (λh=>h.1) (λh=>by first|omega|(simp at h;omega)));have m1:=ae l 1;have m2:=ae l 2;simp at m1 m2;have n2:=ah l 2;have HF:Hid (ja w X ow i g fr pn op xs n (.iface t y) (.returned (.tuple #[])) (w2.setCell (dq g 2) (.slice (eb g2) (xs.length+1) cap2))):=by
   refine⟨rfl,ho.out.setCell _ _ (λ_=>HT.out),_,_,xs++[.iface t y],(TH l).trans rfl,?_⟩;rw[hk.out];refine⟨rfl,g1,g2,hh.out,hi.out,rfl,rfl,?_,?_⟩
   .rw[s8];exact aA (aK l (by decide)) hl.out
   .exact aA (aK l (by decide)) D
  clear D U h1 h6 O l;go_wp2;refine TT ?_;exact HF.out
theorem Js(w:aa)(M:Nat)(a b:Int):
  cl 160 #[Pt M,Jn a,Jn b] w (bD (.iface 130 (Jn (wrap64 (a+b)))) w):=by
 go_enter func160,ntmps160;go_wp2;go_ret;exact⟨rfl,rfl⟩
theorem Fl(w:aa)(M:Nat)(a b:Int):
  cl 161 #[Pt M,Jn a,Jn b] w (bD (.iface 130 (Jn (wrap64 (a-b)))) w):=by
 go_enter func161,ntmps161;go_wp2;go_ret;exact⟨rfl,rfl⟩
theorem Ga(w:aa)(M:Nat)(a b:Int):
  cl 162 #[Pt M,Jn a,Jn b] w (bD (.iface 130 (Jn (wrap64 (a *b)))) w):=by
 go_enter func162,ntmps162;go_wp2;go_ret;exact⟨rfl,rfl⟩
theorem IU(w:aa)(M:Nat)(a b:Int):
  cl 163 #[Pt M,Jn a,Jn b] w (bD (.iface 131 (.bool (decide (a<b)))) w):=by
 go_enter func163,ntmps163;go_wp2;go_ret;exact⟨rfl,rfl⟩
theorem ER(w:aa)(M:Nat)(a b:Int):
  cl 164 #[Pt M,Jn a,Jn b] w (bD (.iface 131 (.bool (a==b))) w):=by
 go_enter func164,ntmps164;go_wp2;go_ret;exact⟨rfl,rfl⟩
theorem Hr(w:aa)(M:Nat)(t c:bi)(a b:al):
  cl 166 #[Pt M,.iface t a,.iface c b] w (bD (.iface 136 (Pt w.heap.size)) (w.alloc (.cells #[.iface t a,.iface c b] 205))):=by
 go_enter func166,ntmps166;go_wp2;go_ret;exact⟨rfl,rfl⟩
theorem Ly(w:aa)(M g:Nat)(v:al)(h:Cl w g 0 v):
  cl 168 #[Pt M,Pt g] w (bD v w):=by
 go_enter func168,ntmps168;go_wp2;go_ret;exact⟨rfl,rfl⟩
theorem LA(w:aa)(M g:Nat)(v:al)(h:Cl w g 1 v):
  cl 169 #[Pt M,Pt g] w (bD v w):=by
 go_enter func169,ntmps169;go_wp2;go_ret;exact⟨rfl,rfl⟩
theorem zt(w:aa)(M:Nat)(t:bi)(x:al)(r:Bool)(b:∀W,(Go.binOp .eql 81 (.iface t x) (.iface 207 (.agg #[]))).run prog W=.ok (.bool r) W):
  cl 171 #[Pt M,.iface t x] w (bD (.iface 131 (.bool r)) w):=by
 go_enter func171,ntmps171;go_wp2;go_ret;exact⟨rfl,rfl⟩
theorem MD(w:aa)(M:Nat)(t:bi)(x:al)(r:Bool)(b:∀W,(Go.binOp .eql 81 (.iface t x) (.iface 131 (.bool false))).run prog W=.ok (.bool r) W):
  cl 173 #[Pt M,.iface t x] w (bD (.iface 131 (.bool r)) w):=by
 go_enter func173,ntmps173;go_wp2;go_ret;exact⟨rfl,rfl⟩
theorem B4(w:aa)(M:Nat)(t:bi)(x:al)(r:Bool)(p:al)(b:∀W,(Instr.typeAssert (.iface t x) 81 136 true).run prog W=.ok (.tuple #[p,.bool r]) W):
  cl 172 #[Pt M,.iface t x] w (bD (.iface 131 (.bool r)) w):=by
 go_enter func172,ntmps172;go_wp2;go_ret;exact⟨rfl,rfl⟩
end Go.Proofs.YtlobegpjenabaaaGreatDoor
