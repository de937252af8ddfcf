import Derived.Test.YtlobegpjenabaaaGreatDoorT14
import Derived.Laws.Rows
namespace Go.Proofs.YtlobegpjenabaaaGreatDoor
open Go.RowKit Tryz
set_option linter.unusedVariables false
set_option linter.defProp false
set_option maxRecDepth 100000
set_option maxHeartbeats 4000000
def R3:=@results_cell_row
def Sa:=@List.getElem?_map
def SD:=@Option.some.injEq
def TD:=@run_store
variable {w2:aa} {K M g S i B N n gf:Nat} {C:Cd} {e:bo} {X0:a9} {ow mo mf:Nat->Option Nat} {s:MS} {app args:al}
def zK(b:Nat):Obj:=.cells (eL b 0 .nilIface (.pointer none) .nilIface (.slice none 0 0) (.pointer none) (.slice none 0 0) 0 0 0 ⟨#[]⟩) 119
def zN(a:aa)(M g:Nat):aa:=((a.setCell ⟨M,3,none⟩ (aD g)).setCell ⟨M,6,none⟩ (aD a.heap.size)).alloc (.cells (ph none 0 (some ⟨g,0,none⟩) 0 none) 115)
def Dn(w:aa)(K b:Nat)(C:Cd)(e:bo)(w':aa):Prop:=e=.returned (Pt w.heap.size)/\∃a,mB (w.alloc (zK b)) K w.heap.size C (.returned (Pt (w.heap.size+1))) a/\w'=zN a w.heap.size (w.heap.size+1)
theorem pA{w:aa}{b:Nat}(h:mB (w.alloc (zK b)) K w.heap.size C e w2):w2.heap[w.heap.size]? =some (zK b)/\Below w.heap.size w w2/\w.heap.size+41<=w2.heap.size:=by
 have d:=TJ w (zK b);have h1:=sk (w.alloc (zK b)) w.heap.size;have f:=oF (w.alloc (zK b)) w.heap.size;have hb:Below w.heap.size w (l9 (w.alloc (zK b)) w.heap.size):=((fL _ w).alloc (ew _) _).trans (h1.mono (by omega));have a:=h.2.1;refine⟨?_,hb.trans (a.below (by omega) (λk c=>by omega)),by have:=a.size;omega⟩;rw[a.block w.heap.size (by omega) (by omega),h1.block w.heap.size (by omega)];exact n6
theorem OW(w:aa)(K b:Nat)(C:Cd)(u2:al)(a:b<w.heap.size)(b2:Cl w b 2 u2)(d:w.ownsRow 0 9 1 u2 C.ns.length (C.ns.map bO))(k:C.ns.length<=1000000):
  cl 42 #[Pt b] w (Dn w K b C):=by
 have c:=ag (wW (w.alloc (zK b)) K w.heap.size b C u2 (by simp) (by simp;omega) ((Cb _ _ _ _ (by simp)).trans rfl) ((kn _ _ _ a).trans b2) (d.alloc _) k);clear b2 d;go_enter func42,ntmps42;go_wp2_with fail;refine c.out.mono ?_;intro e w2 hp;have j:e=.returned (Pt (w.heap.size+1)):=by rw[hp.1,TJ]
 subst j;obtain⟨hm,_,l⟩:=pA hp;have k3:=ae hm 3;have k6:=ae hm 6;have m:=ah hm 3;have o:=ah hm 6;simp only[eL,fD,fy,km] at k3 k6;have h:w.heap.size<w2.heap.size:=by omega
 have f:=ag hp;clear hp hm l c;go_wp2;go_ret;exact⟨rfl,w2,f.out,rfl⟩
theorem I7(w2:aa)(M g:Nat):aB (λk=>k=M) w2 (zN w2 M g):=(((TU (λk=>k=M) w2).setCell (dq M 3) (aD g) (λ_=>rfl)).setCell (dq M 6) (aD w2.heap.size) (λ_=>rfl)).alloc _
theorem wN{b:Nat}(h:w2.heap[M]? =some (zK b)):(zN w2 M g).heap[M]? =some (.cells (eL b 0 .nilIface (aD g) .nilIface (.slice none 0 0) (aD w2.heap.size) (.slice none 0 0) 0 0 0 ⟨#[]⟩) 119):=by
 have a:=ai h;have h1:=TH (o:=3) (v:=aD g) h;have h2:=TH (o:=6) (v:=aD w2.heap.size) h1;unfold zN;rw[tm _ _ _ (by simpa using a)];exact h2
theorem Cj(w2:aa)(M g:Nat):(zN w2 M g).heap[w2.heap.size]? =some (.cells (ph none 0 (eb g) 0 none) 115):=by
 have:=n6 (xs:=((w2.setCell (dq M 3) (aD g)).setCell (dq M 6) (aD w2.heap.size)).heap) (x:=Obj.cells (ph none 0 (eb g) 0 none) 115 (0,0));rw[show((w2.setCell (dq M 3) (aD g)).setCell (dq M 6) (aD w2.heap.size)).heap.size=w2.heap.size by simp] at this;exact this
theorem Cz(S k:Nat)(h:k<14):S+2<=tJ S k/\tJ S k<S+38:=by unfold tJ;split<;>omega
theorem MM(S i j:Nat)(hi:i<14)(a:j<14)(h:tJ S i=tJ S j):i=j:=by
 unfold tJ at h;split at h<;>split at h<;>omega
theorem kO(h:AX K S i=some g):(i%2=0/\i/2<14/\g=tJ S (i/2))\/(i%2=1/\i/2<K/\g=i/2):=by
 unfold AX jj at h;split at h
 .split at h
  .cases h;exact .inl ⟨by assumption,by assumption,rfl⟩
  .cases h
 .split at h
  .rename_i h1
   cases h;exact .inr ⟨h1.1,h1.2,rfl⟩
  .cases h
theorem OY{w:aa}{b:Nat}(o:Code w.heap.size w X0 b C)(Z:mu w B X0)(P:Tab B w)(hB:B<=w.heap.size)(hp:mB (w.alloc (zK b)) w.heap.size w.heap.size C e w2):
  ∃X ow,MR B w.heap.size (zN w2 w.heap.size (w.heap.size+1)) X ow w.heap.size b C (gT C)/\Gw X0 (λ_=>none) w X ow (zN w2 w.heap.size (w.heap.size+1)):=by
 classical
 obtain⟨hm,R,h0⟩:=pA hp;obtain⟨_,E,nv,vv,xs,v⟩:=hp;have A:=TJ w (zK b);have V:=oF (w.alloc (zK b)) w.heap.size;rw[A] at v E V;obtain⟨w3,u⟩:∃w3,w3=zN w2 w.heap.size (w.heap.size+1):=⟨_,rfl⟩;have r:aB (λk=>k=w.heap.size) w2 w3:=by rw[u];exact I7 _ _ _
 have G:w3.heap[w.heap.size]? =some (Obj.cells (eL b 0 .nilIface (aD (w.heap.size+1)) .nilIface (.slice none 0 0) (aD w2.heap.size) (.slice none 0 0) 0 0 0 ⟨#[]⟩) 119 (0,0)):=by rw[u];exact wN hm
 have Q:w3.heap[w2.heap.size]? =some (.cells (ph none 0 (eb (w.heap.size+1)) 0 none) 115):=by rw[u];exact Cj _ _ _
 rw[<-u];have d:Below w.heap.size w w3:=R.trans (r.below (by omega) (λk a=>by omega));have f:∀k c T,T≠119->w2.heap[k]? =some (Obj.cells c T (0,0))->w3.heap[k]? =some (Obj.cells c T (0,0)):=λk c T hT a=>by
  rw[r.block k (ai a) (λe=>by subst e;rw[hm] at a;cases a;exact hT rfl)];exact a
 obtain⟨D,I,O⟩:=v.nr.split;obtain⟨kv,J,hv⟩:=v.vr.CX;have q:∀k,eU (w.heap.size+1) D kv k->w.heap.size<k:=λk a=>by
  rcases a with a|a|a
  .omega
  .have:=(I k a).1;omega
  .have:=(J k a).1;omega
 have U:∀k,eU (w.heap.size+1) D kv k->∃c T,w3.heap[k]? =some (Obj.cells c T (0,0))/\MT.contains T=true:=λk a=>by
  rcases a with a|a|a
  .subst a;exact⟨_,_,f _ _ _ (by decide) v.hS,by decide⟩
  .obtain⟨c,o⟩:=(I k a).2;exact⟨_,_,f _ _ _ (by decide) o,by decide⟩
  .obtain⟨c,o⟩:=(J k a).2;exact⟨_,_,f _ _ _ (by decide) o,by decide⟩
 have Y:∀k,X0 k->k<w.heap.size:=λk a=>by obtain⟨_,c,T,h1,_⟩:=Z k a;exact ai h1
 have y:KI (l9 (w.alloc (zK b)) w.heap.size) w3:=by
  have W:aB (λk=>k=w.heap.size+1) (l9 (w.alloc (zK b)) w.heap.size) w2:=⟨E.os,E.tape,E.output,E.size,λk a O=>E.block k a (by omega)⟩;have hf:(l9 (w.alloc (zK b)) w.heap.size).heap[w.heap.size+1]? =some (.cells #[.string ⟨#[116,104,101,32,112,114,111,103,114,97,109]⟩,.slice none 0 0,.slice none 0 0,.pointer none] 176):=by
   unfold l9;rw[(fB _ _).block (w.heap.size+1) (by simp)];rw[<-A];exact n6
  refine(KI.aT (B:=0) (λk a=>⟨kc _,?_⟩) W).trans (KI.aT (B:=0) (λk a=>⟨kc _,?_⟩) r)
  .subst a;exact⟨_,_,hf,by decide⟩
  .subst a;exact⟨_,_,hm,by decide⟩
 have H:∀(X:a9) (mf:Nat->Option Nat) k,k<14->Oa w3 X (AX w.heap.size (w.heap.size+2)) mf w.heap.size C (2 *k) (.first k):=λX mf k a=>by
  have:=E0 (X:=X) (mf:=mf) (w:=w3) w.heap.size w.heap.size C ((w.alloc (zK b)).alloc (.cells #[.string ⟨#[116,104,101,32,112,114,111,103,114,97,109]⟩,.slice none 0 0,.slice none 0 0,.pointer none] 176)) k a;rw[TJ,TJ] at this;refine this (.inr ?_);unfold l9 at y;rw[A] at y;exact y
 have l:∀k,(if k=w.heap.size then some 0 else if eU (w.heap.size+1) D kv k then some 1 else none:Option Nat)=some 1↔eU (w.heap.size+1) D kv k:=λk=>by
  constructor
  .intro h;split at h
   .cases h
   .split at h
    .assumption
    .cases h
  .intro h;have:=q k h;rw[fb (by omega),fN h]
 refine⟨λk=>X0 k\/k=w.heap.size\/eU (w.heap.size+1) D kv k,λk=>if k=w.heap.size then some 0 else if eU (w.heap.size+1) D kv k then some 1 else none,⟨AX w.heap.size (w.heap.size+2),λi=>if i=0 then some (w.heap.size+1) else none,.nilIface,.nilIface,.slice none 0 0,.slice none 0 0,eb w2.heap.size,w.heap.size+1,G,?_⟩,?_⟩
 .refine⟨o.ak (KI.aj d) d.size (λk a O=>⟨λh=> ?_,d.block k a⟩),rfl,rfl,trivial,?_,⟨oh _ _ _ _,⟨(λk a=>by cases a),kc 40⟩⟩,λi fr hi=> ?_,λk p a=> ?_,λi g m=> ?_,λk g m=> ?_,λk g m=> ?_,λi j g hi hj=> ?_,λi g m=> ?_,λi g m=> ?_,λk t P=> ?_,λk a=> ?_,by simp,P.below (d.mono hB),hB⟩
  .rcases h with h|h|h
   .exact O h
   .omega
   .have:=q k h;omega
  .exact⟨w2.heap.size,none,w.heap.size+1,none,rfl,Q,rfl,⟨[],rfl,trivial⟩,by decide,by decide,rfl⟩
  .cases i with
   |succ i=>simp[gT] at hi
   |zero=>
    simp only[gT,fy,SD] at hi;rw[<-Cx] at hi;subst hi;refine⟨w.heap.size+1,_,nv,vv,none,xs,rfl,⟨(l _).2 (.inl rfl),f _ _ _ (by decide) v.hS,O.imp (λk c a o=>⟨(l k).2 (.inr (.inl a)),f _ _ _ (by decide) o⟩) (λk c a o=>a.1.elim),hv.imp (λk c a o=>⟨(l k).2 (.inr (.inr a)),f _ _ _ (by decide) o⟩) (λk c a o=>⟨(l k).2 (.inr (.inr a)),f _ _ _ (by decide) o⟩),v.vs w3,by rw[v.out],v.len,by have:=(me C 14).2;omega⟩⟩
  .simp only[gT] at a;rw[Sa] at a;by_cases x:k<14
   .rw[List.getElem?_range x] at a;cases a;exact H _ _ k x
   .rw[CC (by simp;omega)] at a;cases a
  .rcases kO m with⟨_,h2,rfl⟩|⟨_,h2,rfl⟩
   .have:=Cz (w.heap.size+2) _ h2;have:=r.size;omega
   .have:=d.size;omega
  .rcases kO m with⟨_,h2,rfl⟩|⟨h1,h2,rfl⟩
   .show k<14;omega
   .omega
  .rcases kO m with⟨_,h2,rfl⟩|⟨h1,h2,rfl⟩
   .obtain⟨g',z,fv,h3,F,_⟩:=H (λ_=>True) (λ_=>none) (2 *k/2) h2;have L:AX w.heap.size (w.heap.size+2) (2 *(2 *k/2))=some (tJ (w.heap.size+2) (2 *k/2)):=by unfold AX;rw[fN (by omega),show 2 *(2 *k/2)/2=2 *k/2 by omega,fN h2]
    rw[L] at h3;cases h3;exact⟨_,_,F,by decide⟩
   .omega
  .rcases kO hi with⟨h1,h2,rfl⟩|⟨h1,h2,rfl⟩<;>rcases kO hj with⟨h3,F,L⟩|⟨h3,F,L⟩
   .have:=MM _ _ _ h2 F L;omega
   .have:=Cz (w.heap.size+2) _ h2;omega
   .have:=Cz (w.heap.size+2) _ F;omega
   .omega
  .unfold AX;have:i%2=1:=by
    unfold jj at m;split at m
    .rename_i h;exact h.1
    .cases m
   rw[fb (by omega)];exact m
  .show i<1;by_cases hi:i=0
   .omega
   .rw[fb hi] at m;cases m
  .by_cases h1:k=w.heap.size
   .exact .inr (.inl h1)
   .by_cases h2:eU (w.heap.size+1) D kv k
    .exact .inr (.inr h2)
    .rw[fb h1,fb h2] at P;cases P
  .rcases a with a|a|a
   .obtain⟨h1,c,T,h2,h3⟩:=Z k a;exact⟨h1,c,T,by rw[d.block k (Y k a)];exact h2,h3⟩
   .subst a;exact⟨hB,_,_,G,by decide⟩
   .exact⟨by have:=q k a;omega,U k a⟩
 .refine⟨TW _ d,λk a hX _=>.inl hX,λk a h=> ?_,λk a _=> ?_⟩
  .rcases h with h|h|h
   .exact h
   .omega
   .have:=q k h;omega
  .rw[fb (by omega),fb (λh=>by have:=q k h;omega)]
def yz:Nat->D->Bool
 |0,_=>false
 |n+1,.agg l=>l.all (yz n)
 |n+1,.slice l _=>l.all (yz n)
 |_+1,.lit (.int .i64 k)=>decide (-9223372036854775808<=k)&&decide (k<=9223372036854775807)
 |_+1,.lit (.bool _)=>true
 |_+1,.lit (.string t)=>decide (t.length<=8000)
 |_+1,_=>false
def PA(R:D->V->Prop):List D->V->Prop
 |[],v=>v=.empty
 |d::r,v=>∃id a b,v=.pair id a b/\id%2=1/\R d a/\PA R r b
def DV:Nat->D->V->Prop
 |0,_,_=>False
 |n+1,.agg l,v=>PA (DV n) l v
 |n+1,.slice l a,v=>PA (DV n) l v/\∃b:Nat,a=[.lit (.int .i64 b)]/\∃x y,v=.pair (2 *b+1) x y
 |_+1,.lit (.int .i64 k),v=>v=.int k
 |_+1,.lit (.bool b),v=>v=.bool b
 |_+1,.lit (.string t),v=>v=.sym t
 |_+1,_,_=>False
theorem LF(h:g<K):jj K (2 *g+1)=some g:=by
 unfold jj;rw[fN ⟨by omega,by omega⟩]
 congr 1;omega
theorem qV{w:aa}(k:∀d x,IV w n x d->yz N d=true->∃v,VX w (jj w.heap.size) v x/\DV N d v):∀(l:List D) (x:al),cK w (IV w n) x l->l.all (yz N)=true->∃v,VX w (jj w.heap.size) v x/\PA (DV N) l v
 |[],x,h,_=>⟨.empty,h,rfl⟩
 |d::r,x,⟨g,v1,m,h1,h2,h3,o⟩,c=>by
  simp only[R7,rr] at c;obtain⟨a,p,f⟩:=k d v1 h3 c.1;obtain⟨b,hb,j⟩:=qV k r m o c.2;exact⟨.pair (2 *g+1) a b,⟨g,v1,m,LF (ai h2),h1,h2,p,hb⟩,_,a,b,rfl,by omega,f,j⟩
theorem IN{w:aa}:∀(N n:Nat) (d:D) (x:al),IV w n x d->yz N d=true->∃v,VX w (jj w.heap.size) v x/\DV N d v
 |0,n,d,x,_,h=>by simp[yz] at h
 |N+1,0,d,x,h,_=>h.elim
 |N+1,n+1,.agg l,x,h,c=>by
  obtain⟨v,h1,h2⟩:=qV (λd x=>IN N n d x) l x h.2 (by simpa only[yz] using c);exact⟨v,h1,h2⟩
 |N+1,n+1,.slice [] a,x,h,c=>absurd h.2.1 (by simp)
 |N+1,n+1,.slice (d::l) a,x,h,c=>by
  obtain⟨v,h1,h2⟩:=qV (λd x=>IN N n d x) (d::l) x h.1.2 (by simpa only[yz] using c);obtain⟨_,_,b,hb,rfl⟩:=h;obtain⟨i,p,q,rfl,_⟩:=id h2;obtain⟨g,_,_,f,e,_⟩:=id h1;refine⟨_,h1,h2,b,hb,p,q,?_⟩;cases e;unfold jj at f;split at f
  .rename_i ho
   have:i/2=b:=pb f;rw[show i=2 *b+1 by omega]
  .cases f
 |N+1,n+1,.lit (.int .i64 k),x,h,c=>by
  simp only[yz,rr,PN] at c;simp only[IV,mK,SD] at h;exact⟨.int k,⟨h.symm,c.1,c.2⟩,rfl⟩
 |N+1,n+1,.lit (.bool b),x,h,c=>by
  simp only[IV,mK,SD] at h;exact⟨.bool b,h.symm,rfl⟩
 |N+1,n+1,.lit (.string t),x,h,c=>by
  simp only[yz,PN] at c;simp only[IV,mK,SD] at h;exact⟨.sym t,⟨h.symm,c⟩,rfl⟩
def Di(N:Nat):List (Option D)->List V->Prop
 |[],[]=>True
 |none::r,v::vs=>v=.nothing/\Di N r vs
 |some d::r,v::vs=>DV N d v/\Di N r vs
 |_,_=>False
def qY(N:Nat):List (Option D)->Bool
 |[]=>true
 |none::r=>qY N r
 |some d::r=>yz N d&&qY N r
theorem vY{w:aa}(N:Nat):∀(cs:List (Option D)) (xs:a7),Es w cs xs->qY N cs=true->∃vs,eV w (jj w.heap.size) vs xs/\Di N cs vs
 |[],[],_,_=>⟨[],trivial,trivial⟩
 |[],_::_,h,_=>h.elim
 |_::_,[],h,_=>h.elim
 |none::r,x::xs,h,a=>by
  obtain⟨vs,h1,h2⟩:=vY N r xs h.2 a;exact⟨.nothing::vs,⟨h.1,h1⟩,rfl,h2⟩
 |some d::r,x::xs,h,a=>by
  simp only[qY,rr] at a;obtain⟨n,c⟩:=h.1;obtain⟨v,h3,b⟩:=IN N n d x c a.1;obtain⟨vs,h1,h2⟩:=vY N r xs h.2 a.2;exact⟨v::vs,⟨h3,h1⟩,b,h2⟩
theorem Di.length:∀{cs:List (Option D)} {vs:List V},Di N cs vs->cs.length=vs.length
 |[],[],_=>rfl
 |[],_::_,h=>h.elim
 |none::_,[],h=>h.elim
 |some _::_,[],h=>h.elim
 |none::r,v::vs,h=>by simp[Di.length h.2]
 |some d::r,v::vs,h=>by simp[Di.length h.2]
def Hi(N:Nat)(st:BS):Bool:=decide (st.is.length<=1000000)&&decide (st.ns.length<=1000000)&&decide (st.cs.length<=1000000)&&decide (st.ls.length<=1000000)&&st.ls.all (λl=>decide (l.2.1.length<=1000000))&&qY N st.cs
theorem NU{w:aa}{X:a9}(f:∀k,B<=k->k<w.heap.size->¬X k):∀(ls:List (au×List Nat×Nat)) (vs:a7),vG w B ls vs->ls.all (λl=>decide (l.2.1.length<=1000000))=true->LX w X ls vs
 |[],[],_,_=>trivial
 |[],_::_,h,_=>h.elim
 |_::_,[],h,_=>h.elim
 |_::_,[_],h,_=>h.elim
 |_::_,[_,_],h,_=>h.elim
 |l::ls,a::b::c::vs,h,d=>by
  simp only[R7,rr,PN] at d;exact⟨⟨h.1.1,⟨ba h.1.2.1 (kc _),λk j=>f k (ar h.1.2.1 j).1 (ar h.1.2.1 j).2⟩,h.1.2.2,d.1⟩,NU f ls vs h.2 d.2⟩
def dp(st:BS)(cs:List V):Cd:=⟨st.is,cs,st.ns,st.ls⟩
theorem LD{w:aa}{b:Nat}{st:BS}{X:a9}(h:Bd w B b st)(a:Hi N st=true)(d:∀k,B<=k->k<w.heap.size->¬X k):∃cs,Di N st.cs cs/\Code w.heap.size w X b (dp st cs):=by
 obtain⟨_,u0,u1,u2,u3,m,u5,x1,x3,t,h⟩:=h;simp only[Hi,rr,PN] at a;obtain⟨⟨⟨⟨⟨h1,h2⟩,h3⟩,l⟩,o⟩,p⟩:=a;obtain⟨cs,r,f⟩:=vY N st.cs x1 h.c1 p;have q:=f.length;have row:∀{T:bi} {s n:Nat} {u:al} {xs:a7},w.ownsRow B T s u n xs->OR w X T s u n xs:=λc=>⟨ba c (kc _),λk j=>d k (ar c j).1 (ar c j).2⟩;refine⟨cs,f,_,u0,u1,u2,u3,x1,x3,h.hS,rfl,rfl,rfl,rfl,row h.r0,?_,r,row h.r2,row h.r3,NU d _ _ h.l3 o,h1,h2,?_,l,ew _⟩
 .have:=row h.r1;rw[q] at this;exact this
 .show cs.length<=_;omega
def iM:List Nat:=[116,117,118,119,120,121,122,123,124,125,126,127,128,129,130]
def fQ:bc:=(iM.map λk=>Value.func (.func k) #[] #[]).toArray
theorem uE(w:aa):cl 76 #[] w (bD (.agg fQ) (w.alloc (.cells fQ 171))):=by
 have c:∀(W:aa) (a:Addr) (m:Mode) (b:Fn) (x y:bc),(store a (.func b x y) m).run prog W=stored prog W a (.func b x y) m:=λW a m b x y=>TD _ _ _ _ _ rfl;go_enter func76,ntmps76;go_wp2;refine ff (R3 rfl _ _ w.heap.size 171 fQ (0,0) _ rfl (fK _ _) underlying171 rfl (by kernel_rfl)) rfl ?_;exact⟨rfl,rfl⟩
def qG(w:aa)(M:Nat)(q:a8)(p:al)(a:a7)(e:bo)(w':aa):Prop:=
 ∃b g,e=.returned .nilIface/\w'=(((b.setCell ⟨M,4,none⟩ p).setCell ⟨M,5,none⟩ (.slice (some ⟨g,if a.length=0 then 0 else 1,none⟩) a.length a.length)).setCell ⟨M,6,none⟩ (.pointer q)).drew/\Below w.heap.size w b/\w.heap.size<=g/\b.heap[g]? =some (Obj.cells (p::a).toArray 81 (0,0))
theorem CO(m:Nat)(w:aa)(M E:Nat)(n:Int)(below frame got:a8)(depth at0:Int)(t tp:bi)(x v v4 v5:al)(l u:a7)(r:l.length<=1000000)(D:M<w.heap.size)(he:E≠M)(k6:Cl w M 6 (Pt E))(k4:Cl w M 4 v4)(k5:Cl w M 5 v5)(hf:∀o,w.frozen? (dq M o)=false)(k2:Cl w M 2 (.iface t x))(U:w.heap[E]? =some (Obj.cells (ph below depth frame at0 got) 115 (0,0)))(hl:ld w got l)(k:∀y∈l,∃t z,y=Value.iface t z)(hr:(.iface t x::l).reverse=.iface tp v::u)(d:u.length=0):
  cl 127 #[Pt M,Jn n] w (qG w M below (.iface tp v) u):=by
 have HW:=ag (sS w.drew E below frame got depth at0 t x l r U (ld.ak (show aC _ w w.drew from λ_ _ h=>h) _ _ hl));have j:=ag k;have HR:=ag hr;have X:=ag r;have H:u.length=l.length:=by have:=Sq List.length hr;simp at this;omega
 have HE:=ag U;have R:=ag hf;have F:=ag k4;have G:=ag k5;have h0:=ai U;have V:=ag d;have h8:0<=1000000:=by omega
 have W:=ag (show(Value.iface t x::l).length=0+1 by rw[<-d,H];rfl);have HP:Hid (∀w2 g,Below w.heap.size w w2->w.heap.size<=g->w2.heap[g]? =some (Obj.cells (.iface tp v::u).toArray 81 (0,0))->qG w M below (.iface tp v) u (.returned .nilIface) ((((w2.setCell ⟨M,4,none⟩ (.iface tp v)).setCell ⟨M,5,none⟩ (.slice (eb g) (0) (0))).setCell ⟨M,6,none⟩ (.pointer below)).drew)):=by
  intro w2 g h1 h2 h3;exact⟨w2,g,rfl,by rw[V.out];rfl,h1,h2,h3⟩
 have i0:(0:Int)<(m:Int)+1+1:=by omega
 have i1:(1:Int)<=(m:Int)+1+1:=by omega
 clear U hl k hr r H d hf k4 k5;go_enter func127,ntmps127;go_wp2_with fail;go_region_with (first|(go_at_call 194;refine HW.out.mono ?_;rintro e w1 ⟨q,⟨g,rfl,hg,hc,hb⟩,hi⟩;have A:=ag (ei hg (ei hc (ei hb hi)));clear hg hc hb hi)|(go_at_call 196;obtain⟨g3,q3,P,J,Q⟩:=A.out.2.2.2;refine(vt _ _ g3 below frame q3 depth at0 _ l X.out (λy hy=>by rcases RD.1 hy with e|e;exact⟨_,_,e⟩;exact j.out y e) (by have:=A.out.2.1;rw[P] at this;exact this) J Q).mono ?_;rintro e w2 ⟨Y,rfl,O,I⟩;rw[W.out] at *;have T:=ag (ei O I);clear O I J Q P))
 all_goals
  have c:Below w.heap.size w w2:=((fL w.heap.size w).drew).trans (A.out.2.2.1.trans (T.out.2.mono A.out.2.2.1.size));have f:w2.heap[Y]? =some (.cells (.iface tp v::u).toArray 81):=by
   obtain⟨hx,h6⟩:=T.out.1;rcases h6 with⟨h7,_⟩|⟨g9,cap9,cu9,h5,hh,h4,h9,ha,hd,Z⟩
   .cases h7
   .cases h5;rw[h4]
    congr 2
    rw[<-HR.out];apply SG.1;rw[<-Z,s9 (by simp;omega)]
  have L:w.heap.size<=Y:=ku A.out.2.2.1.size (ar T.out.1 rfl).1;have a0:=kd f 0 (.iface tp v);have m4:w2.cell? ⟨M,4,none⟩=some v4:=by rw[c.cell (p:=⟨M,4,none⟩) D];exact F.out
  have m5:w2.cell? ⟨M,5,none⟩=some v5:=by rw[c.cell (p:=⟨M,5,none⟩) D];exact G.out
  have m6:w2.cell? ⟨M,6,none⟩=some (.pointer (eb E)):=by rw[c.cell (p:=⟨M,6,none⟩) D];exact k6
  have f4:w2.frozen? ⟨M,4,none⟩=false:=by rw[c.frozen (p:=⟨M,4,none⟩) D];exact R.out 4
  have f5:w2.frozen? ⟨M,5,none⟩=false:=by rw[c.frozen (p:=⟨M,5,none⟩) D];exact R.out 5
  have f6:w2.frozen? ⟨M,6,none⟩=false:=by rw[c.frozen (p:=⟨M,6,none⟩) D];exact R.out 6
  have e0:w2.cell? ⟨E,0,none⟩=some (.pointer below):=by rw[c.cell (p:=⟨E,0,none⟩) h0,ae HE.out];rfl
  have e1:∀a b,((w2.setCell ⟨M,4,none⟩ a).setCell ⟨M,5,none⟩ b).cell? ⟨E,0,none⟩=some (.pointer below):=λa b=>by
   rw[kx _ _ _ _ (by simp),kx _ _ _ _ (by simp)];exact e0
  have HX:=ag (HP.out w2 Y c L f);clear c f L HP A T HR j HE R F G HW;go_wp2;go_region
  all_goals
   go_wp2;go_ret;exact HX.out
theorem FK(m:Nat)(w:aa)(M E:Nat)(n:Int)(below frame got:a8)(depth at0:Int)(t tp:bi)(x v v4 v5:al)(l u:a7)(r:l.length<=1000000)(D:M<w.heap.size)(he:E≠M)(k6:Cl w M 6 (Pt E))(k4:Cl w M 4 v4)(k5:Cl w M 5 v5)(hf:∀o,w.frozen? (dq M o)=false)(k2:Cl w M 2 (.iface t x))(U:w.heap[E]? =some (Obj.cells (ph below depth frame at0 got) 115 (0,0)))(hl:ld w got l)(k:∀y∈l,∃t z,y=Value.iface t z)(hr:(.iface t x::l).reverse=.iface tp v::u)(d:u.length=m+1):
  cl 127 #[Pt M,Jn n] w (qG w M below (.iface tp v) u):=by
 have HW:=ag (sS w.drew E below frame got depth at0 t x l r U (ld.ak (show aC _ w w.drew from λ_ _ h=>h) _ _ hl));have j:=ag k;have HR:=ag hr;have X:=ag r;have H:u.length=l.length:=by have:=Sq List.length hr;simp at this;omega
 have HE:=ag U;have R:=ag hf;have F:=ag k4;have G:=ag k5;have h0:=ai U;have V:=ag d;have h8:m+1<=1000000:=by omega
 have W:=ag (show(Value.iface t x::l).length=m+1+1 by rw[<-d,H];rfl);have HP:Hid (∀w2 g,Below w.heap.size w w2->w.heap.size<=g->w2.heap[g]? =some (Obj.cells (.iface tp v::u).toArray 81 (0,0))->qG w M below (.iface tp v) u (.returned .nilIface) ((((w2.setCell ⟨M,4,none⟩ (.iface tp v)).setCell ⟨M,5,none⟩ (.slice (some ⟨g,1,none⟩) (m+1) (m+1))).setCell ⟨M,6,none⟩ (.pointer below)).drew)):=by
  intro w2 g h1 h2 h3;exact⟨w2,g,rfl,by rw[V.out];rfl,h1,h2,h3⟩
 have i0:(0:Int)<(m:Int)+1+1:=by omega
 have i1:(1:Int)<=(m:Int)+1+1:=by omega
 clear U hl k hr r H d hf k4 k5;go_enter func127,ntmps127;go_wp2_with fail;go_region_with (first|(go_at_call 194;refine HW.out.mono ?_;rintro e w1 ⟨q,⟨g,rfl,hg,hc,hb⟩,hi⟩;have A:=ag (ei hg (ei hc (ei hb hi)));clear hg hc hb hi)|(go_at_call 196;obtain⟨g3,q3,P,J,Q⟩:=A.out.2.2.2;refine(vt _ _ g3 below frame q3 depth at0 _ l X.out (λy hy=>by rcases RD.1 hy with e|e;exact⟨_,_,e⟩;exact j.out y e) (by have:=A.out.2.1;rw[P] at this;exact this) J Q).mono ?_;rintro e w2 ⟨Y,rfl,O,I⟩;rw[W.out] at *;have T:=ag (ei O I);clear O I J Q P))
 all_goals
  have c:Below w.heap.size w w2:=((fL w.heap.size w).drew).trans (A.out.2.2.1.trans (T.out.2.mono A.out.2.2.1.size));have f:w2.heap[Y]? =some (.cells (.iface tp v::u).toArray 81):=by
   obtain⟨hx,h6⟩:=T.out.1;rcases h6 with⟨h7,_⟩|⟨g9,cap9,cu9,h5,hh,h4,h9,ha,hd,Z⟩
   .cases h7
   .cases h5;rw[h4]
    congr 2
    rw[<-HR.out];apply SG.1;rw[<-Z,s9 (by simp;omega)]
  have L:w.heap.size<=Y:=ku A.out.2.2.1.size (ar T.out.1 rfl).1;have a0:=kd f 0 (.iface tp v);have m4:w2.cell? ⟨M,4,none⟩=some v4:=by rw[c.cell (p:=⟨M,4,none⟩) D];exact F.out
  have m5:w2.cell? ⟨M,5,none⟩=some v5:=by rw[c.cell (p:=⟨M,5,none⟩) D];exact G.out
  have m6:w2.cell? ⟨M,6,none⟩=some (.pointer (eb E)):=by rw[c.cell (p:=⟨M,6,none⟩) D];exact k6
  have f4:w2.frozen? ⟨M,4,none⟩=false:=by rw[c.frozen (p:=⟨M,4,none⟩) D];exact R.out 4
  have f5:w2.frozen? ⟨M,5,none⟩=false:=by rw[c.frozen (p:=⟨M,5,none⟩) D];exact R.out 5
  have f6:w2.frozen? ⟨M,6,none⟩=false:=by rw[c.frozen (p:=⟨M,6,none⟩) D];exact R.out 6
  have e0:w2.cell? ⟨E,0,none⟩=some (.pointer below):=by rw[c.cell (p:=⟨E,0,none⟩) h0,ae HE.out];rfl
  have e1:∀a b,((w2.setCell ⟨M,4,none⟩ a).setCell ⟨M,5,none⟩ b).cell? ⟨E,0,none⟩=some (.pointer below):=λa b=>by
   rw[kx _ _ _ _ (by simp),kx _ _ _ _ (by simp)];exact e0
  have HX:=ag (HP.out w2 Y c L f);clear c f L HP A T HR j HE R F G HW;go_wp2;go_region
  all_goals
   go_wp2;go_ret;exact HX.out
theorem RS.Pn{w:aa}{X:a9}{b:Nat}{val out:al}{top:a8}(h:RS B K w X ow mo mf M b C s val app args out top gf)(k:Nat)(a:X k):k<w.heap.size:=by obtain⟨_,c,T,h1,_⟩:=h.xty k a;exact ai h1
theorem zz{w:aa}{X:a9}{b:Nat}{val out:al}{top:a8}(h:RS B K w X ow mo mf M b C s val app args out top gf)(t:w.heap[M]? =some (.cells (eL b s.pc val (aD gf) app args (.pointer top) out 0 0 0 ⟨#[]⟩) 119))(n:Int)(G:0<=n)(F:dV C s 3 n≠.bad):cl 119 #[Pt M,Jn n] w (aV B K X ow w M b C (dV C s 3 n)):=by
 obtain⟨k0,k1,k2,k3,k4,k5,k6,k7,k8,k9,k10,k11⟩:=bq t;simp only[dV] at F ⊢;by_cases hlt:n.toNat<C.ls.length
 .rw[fN hlt];obtain⟨c,u0,u1,u2,u3,x1,x3,d⟩:=h.code;obtain⟨l,E⟩:∃l,C.ls[n.toNat]? =some l:=⟨C.ls[n.toNat],by simp[hlt]⟩;obtain⟨la,h1,lc,ha,hb,hc,A⟩:=LX.get C.ls x3 n.toNat l d.l3 E;obtain⟨o,f,q,r⟩:=A;subst o q;obtain⟨g,j,rfl,_,x,_,_,a⟩:=db d.r3.1 (by omega);obtain⟨V,ucap,T,Z,_,_⟩:=ay f.1;subst T;have b3:w.cell? (dq b 3)=some (.slice (eb g) C.ls.length j):=by rw[ae d.hS];exact d.c3
  have:=Cc w M b g C.ls.length j gf l.2.1.length ucap n.toNat ⟨l.1.toArray⟩ _ l.2.2 (ai t) (ai d.hS) x k0 k2 (ah t 2) k3 b3 hlt d.ll V (a _ _ ha) (a _ _ hb) (a _ _ hc);rw[Int.toNat_of_nonneg G] at this;refine this.mono ?_;rintro e w' ⟨m,nb,lb,ob,mb,z',rfl,h0,I,v,D,L,O,P,R,U,p2,p3,p4,p5⟩;have Y:aB (λk=>k=M) w w':=⟨L,O,P,R,λk z J=>v k z J⟩;have u:=(D _ t).trans (show _=some (Obj.cells (eL b s.pc (.iface 216 (Pt m)) (aD gf) app args (.pointer top) out 0 0 0 ⟨#[]⟩) 119 (0,0)) from rfl);have W:=h.ext t Y u;have H:∀k,w.heap.size<=k->¬X k:=λk z hx=>by have:=h.Pn k hx;omega
  have Q:OR w' X 3 1 (.slice V l.2.1.length ucap) l.2.1.length (rM l.2.1):=f.ak (λk z y=>⟨y,v k z (λe=>by subst e;exact y (h.owx _ _ h.owM))⟩);have h2:=W.obj m (ai U) (λi hi=>by have:=h.mlt i m hi;omega) ⟨_,_,U,by decide⟩ (some (.clo n.toNat s.fr)) (λp hp=>by
   cases hp;refine⟨m,z',_,ey _ _ _,?_,nb,lb,ob,mb,gf,z',l.1,.slice V l.2.1.length ucap,l.2.1,l.2.2,rfl,p2,H _ I,p3,p4,p5,W.fr,E,Q,r⟩;rw[U];simp[nF,E,aD])
  refine⟨rfl,X,ow,⟨_,_,_,_,_,_,_,_,u,h2.sy _ _ app args top gf rfl rfl rfl ⟨by omega,m,ey _ _ _,rfl⟩ h2.fr h2.app h2.st⟩,h.gw Y⟩
 .rw[fb hlt] at F;exact absurd rfl F
theorem FJ{w:aa}{X:a9}{b:Nat}{val out:al}{top:a8}(h:RS B K w X ow mo mf M b C s val app args out top gf)(m:w.heap[M]? =some (.cells (eL b s.pc val (aD gf) app args (.pointer top) out 0 0 0 ⟨#[]⟩) 119))(F:En)(r:List En)(Q:s.st=F::r)(q:a8)(L:Ba w mo mf q r)(p:V)(a:List V)(tp:bi)(f:al)(c:a7)(hp:VX w mo p (.iface tp f))(G:eV w mo a c)(O:c.length<=1000000)(e:bo)(w':aa)(P:qG w M q (.iface tp f) c e w'):
  e=.returned .nilIface/\∃X' ow',MR B K w' X' ow' M b C {s with app:=some (p,a),st:=r}/\Gw X ow w X' ow' w':=by
 obtain⟨w2,g,rfl,rfl,hb,I,H⟩:=P;have D:=ai m;have A:w2.heap[M]? =some (.cells (eL b s.pc val (aD gf) app args (.pointer top) out 0 0 0 ⟨#[]⟩) 119):=by rw[hb.block M D];exact m
 have E:aB (λk=>k=M) w w2:=TW _ hb;have v:aB (λk=>k=M) w (((w2.setCell (dq M 4) (.iface tp f)).setCell (dq M 5) (.slice (some (dq g (if c.length=0 then 0 else 1))) c.length c.length)).setCell (dq M 6) (.pointer q)).drew:=(((E.setCell (dq M 4) _ (λ_=>rfl)).setCell (dq M 5) _ (λ_=>rfl)).setCell (dq M 6) _ (λ_=>rfl)).drew;have o:(((w2.setCell (dq M 4) (.iface tp f)).setCell (dq M 5) (.slice (some (dq g (if c.length=0 then 0 else 1))) c.length c.length)).setCell (dq M 6) (.pointer q)).drew.heap[M]? =some (Obj.cells (eL b s.pc val (aD gf) (.iface tp f) (.slice (some (dq g (if c.length=0 then 0 else 1))) c.length c.length) (.pointer q) out 0 0 0 ⟨#[]⟩) 119 (0,0)):=(TH (TH (TH A))).trans rfl;have l:g≠M:=by omega
 have u:(((w2.setCell (dq M 4) (.iface tp f)).setCell (dq M 5) (.slice (some (dq g (if c.length=0 then 0 else 1))) c.length c.length)).setCell (dq M 6) (.pointer q)).drew.heap[g]? =some (.cells (.iface tp f::c).toArray 81):=by
  rw[dv,eY _ _ _ _ _ l,eY _ _ _ _ _ l,eY _ _ _ _ _ l];exact H
 have J:ow g=none:=by
  cases e:ow g with
  |none=>rfl
  |some t=>have:=h.Pn g (h.owx _ _ e);omega
 have z:=h.ext' m v o (X':=λk=>X k\/k=g) (ow':=λk=>if k=g then some 0 else ow k) (λk j=>.inl j) (λk j d=>d.elim id (λe=>by omega)) (λk j=>fb (by omega)) (λk t y=>by
   have y:(if k=g then some 0 else ow k)=some t:=y;by_cases e:k=g
   .exact .inr e
   .rw[fb e] at y;exact .inl (h.owx _ _ y)) (λk d j=>by
   rcases d with d|d
   .have:=h.Pn k d;omega
   .subst d;exact⟨_,_,u,by decide⟩)
 refine⟨rfl,_,_,⟨_,_,_,_,_,_,_,_,o,z.sy {s with app:=some (p,a),st:=r} val (.iface tp f) _ q gf rfl rfl rfl z.val z.fr ⟨hp.cG m v,c,eV.ak (T8 m v (by decide)) (TV _) _ _ G,?_⟩ (L.cG m v)⟩,?_⟩
 .refine .inr ⟨g,_,c.length,_,rfl,ew _,?_,u,?_,.inr ⟨fN rfl,rfl⟩⟩
  .unfold maxLen;omega
  .by_cases x:c.length=0
   .rw[fN x,x];simp[R9 x]
   .rw[fb x];simp
 .exact⟨v.mono (λk e=>by subst e;rw[h.owM];simp),λk j d _=>.inl d,λk j d=>d.elim id (λe=>by omega),λk j ho=>by show(if k=g then some 0 else ow k)=none;rw[fb (by omega)];exact ho⟩
theorem CN{w:aa}{X:a9}{b:Nat}{val out:al}{top:a8}(h:RS B K w X ow mo mf M b C s val app args out top gf)(k:w.heap[M]? =some (.cells (eL b s.pc val (aD gf) app args (.pointer top) out 0 0 0 ⟨#[]⟩) 119))(n:Int)(f:dV C s 11 n≠.bad):cl 127 #[Pt M,Jn n] w (aV B K X ow w M b C (dV C s 11 n)):=by
 obtain⟨U,k1,k2,k3,L,O,k6,V,W,Y,k10,k11⟩:=bq k;have A:=h.st;have D:=h.val;simp only[dV] at f ⊢;cases hs:s.st with
 |nil=>rw[hs] at f;exact absurd rfl f
 |cons l r=>
  rw[hs] at A f;cases hsv:s.val with
  |none=>rw[hsv] at f;exact absurd rfl f
  |some v=>
   rw[hsv] at D f;simp only[] at f ⊢;have D:VX w mo v val:=D;obtain⟨t,x,rfl⟩:=D.form;obtain⟨g,q,gf0,got,rfl,H,Q,⟨xs,hi,j⟩,I,T,R⟩:=A;have c:=eV.reverse (show eV w mo (v::l.got) (.iface t x::xs) from⟨D,j⟩);cases hrv:(v::l.got).reverse with
   |nil=>rw[hrv] at f;exact absurd rfl f
   |cons p a=>
    simp only[];rw[hrv] at c;cases hrx:(Value.iface t x::xs).reverse with
    |nil=>rw[hrx] at c;exact c.elim
    |cons y G=>
     rw[hrx] at c;obtain⟨hp,P⟩:=c;obtain⟨tp,J,rfl⟩:=hp.form;have F:xs.length<=1000000:=by rw[<-j.length];exact I
     have u:g≠M:=aU H k (by decide);have z:G.length<=1000000:=by have:=Sq List.length hrx;simp at this;omega
     have d:=λe w' E=>FJ h k l r hs q R p a tp J G hp P z e w' E;rw[hsv] at d;cases hrl2:G.length with
     |zero=>exact(CO 0 w M g n q (eb gf0) got r.length l.nx t tp x J _ _ xs G F (ai k) u k6 L O (λo=>ah k o) k2 H hi (eV.aH j) hrx hrl2).mono λe w' E=>d e w' E
     |succ m=>exact(FK m w M g n q (eb gf0) got r.length l.nx t tp x J _ _ xs G F (ai k) u k6 L O (λo=>ah k o) k2 H hi (eV.aH j) hrx hrl2).mono λe w' E=>d e w' E
theorem FY(w:aa)(M:Nat)(t a:bi)(x y:al)(r:Bool)(b:(Go.binOp .eql 81 (.iface t x) (.iface a y)).run prog w=.ok (.bool r) w):
  cl 174 #[Pt M,.iface t x,.iface a y] w (bD (.iface 131 (.bool r)) w):=by
 go_enter func174,ntmps174;go_wp2;go_ret;exact⟨rfl,rfl⟩
theorem Ic(w:aa)(M E gf mb d b a k:Nat)(n pc:Int)(old D:al)(t j:bi)(x y:al)(r:Bool)(h:cP w M E gf n pc old D)(A:Cl w mb 0 (Pt M))(f0:Cl w d 0 (.func (.func 174) #[Pt M] #[]))(m:mb≠M)(l:d≠M)(f:b≠M)(v:Cl w b a (.iface t x))(z:Cl w b (a+1) (.iface j y))(o:(Go.binOp .eql 81 (.iface t x) (.iface j y)).run prog w.drew=.ok (.bool r) w.drew):
  cl 213 #[.slice (some (dq b a)) 2 k,Pt mb,Pt d] w (bD .nilIface (cO w.drew M gf n (.iface 131 (.bool r)))):=by
 have q:=ag (ek h.drew 131 (.bool r));have u:=ag (show(λ(c:aa)=>c.cell? ⟨mb,0,none⟩=some (Pt M)/\c.cell? ⟨d,0,none⟩=some (.func (.func 174) #[Pt M] #[])/\c.cell? ⟨b,a,none⟩=some (.iface t x)/\c.cell? ⟨b,a+1,none⟩=some (.iface j y)) (cO w.drew M gf n (.iface 131 (.bool r))) from⟨(bN _ M gf n _ mb 0 m).trans A,(bN _ M gf n _ d 0 l).trans f0,(bN _ M gf n _ b _ f).trans v,(bN _ M gf n _ b _ f).trans z⟩);have p:=ag (FY w.drew M t j x y r o);clear h o;go_enter func213,ntmps213;go_wp2;go_region_held3 (λc=>c.cell? ⟨mb,0,none⟩=some (Pt M)/\c.cell? ⟨d,0,none⟩=some (.func (.func 174) #[Pt M] #[])/\c.cell? ⟨b,a,none⟩=some (.iface t x)/\c.cell? ⟨b,a+1,none⟩=some (.iface j y)) (first|go_keep|exact u.out) (first|(go_at_call 174;refine p.out.mono ?_;rintro e w' ⟨rfl,rfl⟩)|(go_at_call 212;refine q.out.mono ?_;rintro e w' ⟨rfl,rfl⟩))
 all_goals(go_wp2;go_ret;exact⟨rfl,rfl⟩)
def mW(z:ao)(v:al):al:=.iface 178 (.agg #[.string z,v])
theorem Bg(w:aa)(M:Nat)(n:Int)(t:bi)(x:al)(b:Cl w M 4 (.iface t x))(a:∀W,(Instr.typeAssert (.iface t x) 81 216 true).run prog W=.ok (.tuple #[.pointer none,.bool false]) W):
  cl 128 #[Pt M,Jn n] w (bD (dR 6) w):=by
 go_enter func128,ntmps128;go_wp2;go_ret;exact⟨rfl,rfl⟩
theorem eM(k:Addr)(w:aa):(Instr.typeAssert (.iface 216 (.pointer (some k))) 81 216 true).run prog w=.ok (.tuple #[.pointer (some k),.bool true]) w:=by kernel_rfl
theorem yj(w:aa)(M g Hp len a:Nat)(n:Int)(z:ao)(u:a8)(f:Cl w M 4 (.iface 216 (Pt g)))(h:Cl w M 5 (.slice u len a))(c:Cl w g 0 (.string z))(d:Cl w g 1 (Jn Hp))(b:len≠Hp):
  cl 128 #[Pt M,Jn n] w (bD (mW z (dR 7)) w.drew):=by
 have hp:=eM;have hb:((len:Int) !=(Hp:Int))=true:=by rw[SC];omega
 go_enter func128,ntmps128;go_wp2;go_region;go_wp2;go_ret;exact⟨rfl,rfl⟩
theorem pK(w:aa)(M g len a x1 x2 x3 m:Nat)(n:Int)(z:ao)(u:a8)(P:aa->Prop)(k:Cl w M 4 (.iface 216 (Pt g)))(l:Cl w M 5 (.slice u len a))(f:Cl w g 0 (.string z))(h:Cl w g 1 (Jn len))(j:Cl w g 2 (.func (.func 211) #[] #[Pt x1,Pt x2]))(d:Hid (cl 211 #[.slice u len a,Pt x1,Pt x2] w.drew.drew λe w'=>e=.returned .nilIface/\P w')):
  cl 128 #[Pt M,Jn n] w λe w'=>e=.returned .nilIface/\P w':=by
 have hp:=eM;have hb:((len:Int) !=(len:Int))=false:=by simp
 go_enter func128,ntmps128;go_wp2;go_region;go_wp2;go_region_with (go_at_call 211;refine d.out.mono ?_;rintro e w' ⟨rfl,c⟩;have b:=ag c;clear c)
 all_goals
  go_wp2;go_ret;exact⟨rfl,b.out⟩
theorem j8(w:aa)(M g len a x1 x2 x3 m:Nat)(n:Int)(z:ao)(u:a8)(P:aa->Prop)(k:Cl w M 4 (.iface 216 (Pt g)))(l:Cl w M 5 (.slice u len a))(f:Cl w g 0 (.string z))(h:Cl w g 1 (Jn len))(j:Cl w g 2 (.func (.func 214) #[] #[Pt x1,Pt x2]))(d:Hid (cl 214 #[.slice u len a,Pt x1,Pt x2] w.drew.drew λe w'=>e=.returned .nilIface/\P w')):
  cl 128 #[Pt M,Jn n] w λe w'=>e=.returned .nilIface/\P w':=by
 have hp:=eM;have hb:((len:Int) !=(len:Int))=false:=by simp
 go_enter func128,ntmps128;go_wp2;go_region;go_wp2;go_region_with (go_at_call 214;refine d.out.mono ?_;rintro e w' ⟨rfl,c⟩;have b:=ag c;clear c)
 all_goals
  go_wp2;go_ret;exact⟨rfl,b.out⟩
theorem iq(w:aa)(M g len a x1 x2 x3 m:Nat)(n:Int)(z:ao)(u:a8)(P:aa->Prop)(k:Cl w M 4 (.iface 216 (Pt g)))(l:Cl w M 5 (.slice u len a))(f:Cl w g 0 (.string z))(h:Cl w g 1 (Jn len))(j:Cl w g 2 (.func (.func 215) #[] #[Pt x1,Pt x2]))(d:Hid (cl 215 #[.slice u len a,Pt x1,Pt x2] w.drew.drew λe w'=>e=.returned .nilIface/\P w')):
  cl 128 #[Pt M,Jn n] w λe w'=>e=.returned .nilIface/\P w':=by
 have hp:=eM;have hb:((len:Int) !=(len:Int))=false:=by simp
 go_enter func128,ntmps128;go_wp2;go_region;go_wp2;go_region_with (go_at_call 215;refine d.out.mono ?_;rintro e w' ⟨rfl,c⟩;have b:=ag c;clear c)
 all_goals
  go_wp2;go_ret;exact⟨rfl,b.out⟩
theorem kw(w:aa)(M g len a x1 x2 x3 m:Nat)(n:Int)(z:ao)(u:a8)(P:aa->Prop)(k:Cl w M 4 (.iface 216 (Pt g)))(l:Cl w M 5 (.slice u len a))(f:Cl w g 0 (.string z))(h:Cl w g 1 (Jn len))(j:Cl w g 2 (.func (.func 213) #[] #[Pt x1,Pt x2]))(d:Hid (cl 213 #[.slice u len a,Pt x1,Pt x2] w.drew.drew λe w'=>e=.returned .nilIface/\P w')):
  cl 128 #[Pt M,Jn n] w λe w'=>e=.returned .nilIface/\P w':=by
 have hp:=eM;have hb:((len:Int) !=(len:Int))=false:=by simp
 go_enter func128,ntmps128;go_wp2;go_region;go_wp2;go_region_with (go_at_call 213;refine d.out.mono ?_;rintro e w' ⟨rfl,c⟩;have b:=ag c;clear c)
 all_goals
  go_wp2;go_ret;exact⟨rfl,b.out⟩
theorem mH(w:aa)(M g len a x1 x2 x3 m:Nat)(n:Int)(z:ao)(u:a8)(P:aa->Prop)(k:Cl w M 4 (.iface 216 (Pt g)))(l:Cl w M 5 (.slice u len a))(f:Cl w g 0 (.string z))(h:Cl w g 1 (Jn len))(j:Cl w g 2 (.func (.func 231) #[] #[Pt x1,Pt x2]))(d:Hid (cl 231 #[.slice u len a,Pt x1,Pt x2] w.drew.drew λe w'=>e=.returned .nilIface/\P w')):
  cl 128 #[Pt M,Jn n] w λe w'=>e=.returned .nilIface/\P w':=by
 have hp:=eM;have hb:((len:Int) !=(len:Int))=false:=by simp
 go_enter func128,ntmps128;go_wp2;go_region;go_wp2;go_region_with (go_at_call 231;refine d.out.mono ?_;rintro e w' ⟨rfl,c⟩;have b:=ag c;clear c)
 all_goals
  go_wp2;go_ret;exact⟨rfl,b.out⟩
theorem pJ(w:aa)(M g len a x1 x2 x3 d:Nat)(n:Int)(z:ao)(u:a8)(P:aa->Prop)(l:Cl w M 4 (.iface 216 (Pt g)))(m:Cl w M 5 (.slice u len a))(h:Cl w g 0 (.string z))(j:Cl w g 1 (Jn len))(k:Cl w g 2 (.func (.func 192) #[] #[Pt x1,Pt x2,Pt x3,Pt d]))(f:Hid (cl 192 #[.slice u len a,Pt x1,Pt x2,Pt x3,Pt d] w.drew.drew λe w'=>e=.returned .nilIface/\P w')):
  cl 128 #[Pt M,Jn n] w λe w'=>e=.returned .nilIface/\P w':=by
 have hp:=eM;have hb:((len:Int) !=(len:Int))=false:=by simp
 go_enter func128,ntmps128;go_wp2;go_region;go_wp2;go_region_with (go_at_call 192;refine f.out.mono ?_;rintro e w' ⟨rfl,c⟩;have b:=ag c;clear c)
 all_goals
  go_wp2;go_ret;exact⟨rfl,b.out⟩
theorem nT(w:aa)(M g len a x1 x2 x3 m:Nat)(n:Int)(z:ao)(u:a8)(P:aa->Prop)(k:Cl w M 4 (.iface 216 (Pt g)))(l:Cl w M 5 (.slice u len a))(f:Cl w g 0 (.string z))(h:Cl w g 1 (Jn len))(j:Cl w g 2 (.func (.func 175) #[Pt M] #[]))(d:Hid (cl 175 #[Pt M,.slice u len a] w.drew.drew λe w'=>e=.returned .nilIface/\P w')):
  cl 128 #[Pt M,Jn n] w λe w'=>e=.returned .nilIface/\P w':=by
 have hp:=eM;have hb:((len:Int) !=(len:Int))=false:=by simp
 go_enter func128,ntmps128;go_wp2;go_region;go_wp2;go_region_with (go_at_call 175;refine d.out.mono ?_;rintro e w' ⟨rfl,c⟩;have b:=ag c;clear c)
 all_goals
  go_wp2;go_ret;exact⟨rfl,b.out⟩
theorem pI(w:aa)(M g len a x1 x2 x3 m:Nat)(n:Int)(z:ao)(u:a8)(P:aa->Prop)(k:Cl w M 4 (.iface 216 (Pt g)))(l:Cl w M 5 (.slice u len a))(f:Cl w g 0 (.string z))(h:Cl w g 1 (Jn len))(j:Cl w g 2 (.func (.func 176) #[Pt M] #[]))(d:Hid (cl 176 #[Pt M,.slice u len a] w.drew.drew λe w'=>e=.returned .nilIface/\P w')):
  cl 128 #[Pt M,Jn n] w λe w'=>e=.returned .nilIface/\P w':=by
 have hp:=eM;have hb:((len:Int) !=(len:Int))=false:=by simp
 go_enter func128,ntmps128;go_wp2;go_region;go_wp2;go_region_with (go_at_call 176;refine d.out.mono ?_;rintro e w' ⟨rfl,c⟩;have b:=ag c;clear c)
 all_goals
  go_wp2;go_ret;exact⟨rfl,b.out⟩
theorem gh(w:aa)(M g len a x1 x2:Nat)(n er:Int)(z:ao)(u:a8)(j:Cl w M 4 (.iface 216 (Pt g)))(k:Cl w M 5 (.slice u len a))(c:Cl w g 0 (.string z))(d:Cl w g 1 (Jn len))(f:Cl w g 2 (.func (.func 211) #[] #[Pt x1,Pt x2]))(b:Hid (cl 211 #[.slice u len a,Pt x1,Pt x2] w.drew.drew (bD (.iface 107 (.agg #[Jn er])) w.drew.drew))):
  cl 128 #[Pt M,Jn n] w (bD (mW z (dR er)) w.drew.drew):=by
 have hp:=eM;have hb:((len:Int) !=(len:Int))=false:=by simp
 have h:∀W,(Go.binOp .neq 103 (.iface 107 (.agg #[Jn er])) .nilIface).run prog W=.ok (.bool true) W:=λW=>by kernel_rfl
 go_enter func128,ntmps128;go_wp2;go_region;go_wp2;go_region_with (go_at_call 211;refine b.out.mono ?_;rintro e w' ⟨rfl,rfl⟩)
 all_goals
  go_wp2;go_ret;exact⟨rfl,rfl⟩
theorem jf(w:aa)(M g len a x1 x2:Nat)(n er:Int)(z:ao)(u:a8)(j:Cl w M 4 (.iface 216 (Pt g)))(k:Cl w M 5 (.slice u len a))(c:Cl w g 0 (.string z))(d:Cl w g 1 (Jn len))(f:Cl w g 2 (.func (.func 214) #[] #[Pt x1,Pt x2]))(b:Hid (cl 214 #[.slice u len a,Pt x1,Pt x2] w.drew.drew (bD (.iface 107 (.agg #[Jn er])) w.drew.drew))):
  cl 128 #[Pt M,Jn n] w (bD (mW z (dR er)) w.drew.drew):=by
 have hp:=eM;have hb:((len:Int) !=(len:Int))=false:=by simp
 have h:∀W,(Go.binOp .neq 103 (.iface 107 (.agg #[Jn er])) .nilIface).run prog W=.ok (.bool true) W:=λW=>by kernel_rfl
 go_enter func128,ntmps128;go_wp2;go_region;go_wp2;go_region_with (go_at_call 214;refine b.out.mono ?_;rintro e w' ⟨rfl,rfl⟩)
 all_goals
  go_wp2;go_ret;exact⟨rfl,rfl⟩
theorem mG(w:aa)(M g len a x1 x2:Nat)(n er:Int)(z:ao)(u:a8)(j:Cl w M 4 (.iface 216 (Pt g)))(k:Cl w M 5 (.slice u len a))(c:Cl w g 0 (.string z))(d:Cl w g 1 (Jn len))(f:Cl w g 2 (.func (.func 175) #[Pt M] #[]))(b:Hid (cl 175 #[Pt M,.slice u len a] w.drew.drew (bD (.iface 107 (.agg #[Jn er])) w.drew.drew))):
  cl 128 #[Pt M,Jn n] w (bD (mW z (dR er)) w.drew.drew):=by
 have hp:=eM;have hb:((len:Int) !=(len:Int))=false:=by simp
 have h:∀W,(Go.binOp .neq 103 (.iface 107 (.agg #[Jn er])) .nilIface).run prog W=.ok (.bool true) W:=λW=>by kernel_rfl
 go_enter func128,ntmps128;go_wp2;go_region;go_wp2;go_region_with (go_at_call 175;refine b.out.mono ?_;rintro e w' ⟨rfl,rfl⟩)
 all_goals
  go_wp2;go_ret;exact⟨rfl,rfl⟩
def PJ(w:aa)(M:Nat)(t:au)(e:bo)(w':aa):Prop:=∃w1,e=.returned .nilIface/\Below w.heap.size w w1/\w'=nu w1 M 1 0 0 ⟨t.toArray⟩
theorem L3(w:aa)(M:Nat)(n:Int)(d:al)(tl:au)(k2:Cl w M 2 d)(c:M<w.heap.size)(c1 c3 h j k l m c10 c11:al)(k1:Cl w M 1 c1)(k3:Cl w M 3 c3)(q:Cl w M 4 h)(r:Cl w M 5 j)(k6:Cl w M 6 k)(t:Cl w M 8 l)(u:Cl w M 9 m)(k10:Cl w M 10 c10)(k11:Cl w M 11 c11)(hf:∀o,w.frozen? (dq M o)=false)(x:Hid (cl 198 #[d] w λe w'=>e=.returned (.string ⟨tl.toArray⟩)/\Below w.heap.size w w')):
  cl 130 #[Pt M,Jn n] w (PJ w M tl):=by
 have v:Hid (∀w1,Below w.heap.size w w1->cl 51 #[Pt M,.agg #[Jn 1,Jn 0,Jn 0,.string ⟨tl.toArray⟩]] w1 (bD (.tuple #[]) (nu w1 M 1 0 0 ⟨tl.toArray⟩))):=by
  intro w1 hb;have a:∀o,w1.cell? (dq M o)=w.cell? (dq M o):=λo=>hb.cell (p:=(dq M o)) c;exact AB w1 M c1 d c3 h j k l m c10 c11 1 0 0 _ (gr c hb.size) ((a 1).trans k1) ((a 2).trans k2) ((a 3).trans k3) ((a 4).trans q) ((a 5).trans r) ((a 6).trans k6) ((a 8).trans t) ((a 9).trans u) ((a 10).trans k10) ((a 11).trans k11) (λo=>by rw[hb.frozen (p:=(dq M o)) c];exact hf o)
 clear k1 k3 q r k6 t u k10 k11 hf;go_enter func130,ntmps130;go_wp2_with fail;refine x.out.mono ?_;rintro e w1 ⟨rfl,hb⟩;have f:=ag hb;clear hb;go_wp2_with fail;refine(v.out w1 f.out).mono ?_;rintro e w2 ⟨rfl,b⟩;have y:=ag b;clear b;go_wp2;go_ret;exact⟨w1,rfl,f.out,y.out⟩
def tO(w:aa)(M:Nat)(top:a8):aa:=(((w.alloc (.cells #[.pointer (some ⟨M,0,none⟩)] 73)).alloc (.cells #[.pointer top] 111)).alloc (.cells #[.string ⟨#[119,104,97,116,32,99,97,108,108,47,99,99,32,103,97,118,101]⟩,.int .i64 1,.func (.func 231) #[] #[.pointer (some ⟨w.heap.size+1,0,none⟩),.pointer (some ⟨w.heap.size,0,none⟩)]] 220))
def Ox(w1:aa)(M:Nat)(t:bi)(x:al)(g:Nat)(pc:Int):aa:=
 ((((w1.setCell ⟨M,4,none⟩ (.iface t x)).setCell ⟨M,5,none⟩ (.slice (some ⟨w1.heap.size,0,none⟩) 1 1)).setCell ⟨M,1,none⟩ (.int .i64 pc)).alloc (.cells #[.iface 216 (.pointer (some ⟨g,0,none⟩))] 81))
theorem sL(w:aa)(M:Nat)(top:a8):Below w.heap.size w (tO w M top):=(((fL _ w).alloc (ew _) _).alloc (by simp) _).alloc (by simp;omega) _
theorem Bq(w:aa)(M c b h:Nat)(t:bi)(x m q:al)(pc:Int)(top:a8)(d:M<w.heap.size)(y:0<pc/\pc<10000000)(k1:Cl w M 1 (Jn pc))(z:Cl w M 4 m)(A:Cl w M 5 q)(k6:Cl w M 6 (.pointer top))(hf:∀o,w.frozen? (dq M o)=false)(j:c≠M)(lgv:c<w.heap.size)(v:Cl w c b (.iface t x)):
  cl 176 #[Pt M,.slice (some (dq c b)) 1 h] w (bD .nilIface (Ox (tO w.drew M top) M t x (w.heap.size+2) (pc-1))):=by
 obtain⟨w1,a⟩:∃w1,w1=tO w.drew M top:=⟨_,rfl⟩;have r:Hid (cl 216 #[Pt M] w.drew (bD (Pt (w.heap.size+2)) w1)):=by
  rw[a];exact xy w.drew M top d k6
 have hb:Below w.heap.size w w1:=by rw[a];exact((fL _ w).drew).trans (sL w.drew M top)
 have f:=hb.size;have l1:M<w1.heap.size:=gr d f;have l2:c<w1.heap.size:=gr lgv f;have G:w1.cell? (dq M 1)=some (Jn pc):=by rw[hb.cell (p:=(dq M 1)) d];exact k1
 have H:w1.cell? (dq M 4)=some m:=by rw[hb.cell (p:=(dq M 4)) d];exact z
 have I:w1.cell? (dq M 5)=some q:=by rw[hb.cell (p:=(dq M 5)) d];exact A
 have ma:w1.cell? (dq c b)=some (.iface t x):=by rw[hb.cell (p:=(dq c b)) lgv];exact v
 have D:w1.frozen? (dq M 1)=false:=by rw[hb.frozen (p:=(dq M 1)) d];exact hf 1
 have E:w1.frozen? (dq M 4)=false:=by rw[hb.frozen (p:=(dq M 4)) d];exact hf 4
 have F:w1.frozen? (dq M 5)=false:=by rw[hb.frozen (p:=(dq M 5)) d];exact hf 5
 have u:=ag a;have l:M≠c:=λe=>j e.symm;clear hf hb a f;go_enter func176,ntmps176;go_wp2;go_region_with (go_at_call 216;refine r.out.mono ?_;rintro e w' ⟨rfl,k⟩;obtain rfl:w1=w':=k.symm)
 all_goals(go_wp2;go_ret;rw[<-u.out];exact⟨rfl,rfl⟩)
theorem mN(w:aa)(mb f c a b:Nat)(t d:bi)(x y p:al)(q:al)(r:Bool)(h:Cl w c a (.iface t x))(j:Cl w c (a+1) (.iface d y))(hp:p.oneCell'=true)(l:∀W,(Instr.typeAssert (.iface t x) 81 130 true).run prog W=.ok (.tuple #[Jn 0,.bool false]) W)(k:Int)(h1:∀W,(Instr.typeAssert (.iface d y) 81 130 true).run prog W=.ok (.tuple #[Jn k,.bool r]) W):
  cl 211 #[.slice (some (dq c a)) 2 b,Pt mb,Pt f] w (bD (dR 8) w):=by
 go_enter func211,ntmps211;go_wp2;go_ret;exact⟨rfl,rfl⟩
theorem wh(w:aa)(mb f c a b:Nat)(t d:bi)(x y:al)(h:Cl w c a (.iface t x))(j:Cl w c (a+1) (.iface d y))(k:Int)(l:∀W,(Instr.typeAssert (.iface t x) 81 130 true).run prog W=.ok (.tuple #[Jn k,.bool true]) W)(h1:∀W,(Instr.typeAssert (.iface d y) 81 130 true).run prog W=.ok (.tuple #[Jn 0,.bool false]) W):
  cl 211 #[.slice (some (dq c a)) 2 b,Pt mb,Pt f] w (bD (dR 8) w):=by
 go_enter func211,ntmps211;go_wp2;go_ret;exact⟨rfl,rfl⟩
theorem wY(k:Addr)(w:aa):(Instr.typeAssert (.iface 136 (.pointer (some k))) 81 136 true).run prog w=.ok (.tuple #[.pointer (some k),.bool true]) w:=by kernel_rfl
theorem OC(w:aa)(M E gf mb c d a b g:Nat)(n pc:Int)(old l:al)(t:bi)(x:al)(h:cP w M E gf n pc old l)(o:Cl w mb 0 (Pt M))(f0:Cl w c 0 (.func (.func 168) #[Pt M] #[]))(m:Cl w d a (.iface 136 (Pt g)))(k:Cl w g 0 (.iface t x)):
  cl 214 #[.slice (some (dq d a)) 1 b,Pt mb,Pt c] w (bD .nilIface (cO w.drew M gf n (.iface t x))):=by
 have j:=ag (ek h.drew t x);have f:=ag (Ly w.drew M g (.iface t x) k);have hi:=wY;clear h;go_enter func214,ntmps214;go_wp2;go_region_with (first|(go_at_call 168;refine f.out.mono ?_;rintro e w' ⟨rfl,rfl⟩)|(go_at_call 212;refine j.out.mono ?_;rintro e w' ⟨rfl,rfl⟩))
 all_goals(go_wp2;go_ret;exact⟨rfl,rfl⟩)
theorem OD(w:aa)(M E gf mb c d a b g:Nat)(n pc:Int)(old l:al)(t:bi)(x:al)(h:cP w M E gf n pc old l)(o:Cl w mb 0 (Pt M))(f0:Cl w c 0 (.func (.func 169) #[Pt M] #[]))(m:Cl w d a (.iface 136 (Pt g)))(k:Cl w g 1 (.iface t x)):
  cl 214 #[.slice (some (dq d a)) 1 b,Pt mb,Pt c] w (bD .nilIface (cO w.drew M gf n (.iface t x))):=by
 have j:=ag (ek h.drew t x);have f:=ag (LA w.drew M g (.iface t x) k);have hi:=wY;clear h;go_enter func214,ntmps214;go_wp2;go_region_with (first|(go_at_call 169;refine f.out.mono ?_;rintro e w' ⟨rfl,rfl⟩)|(go_at_call 212;refine j.out.mono ?_;rintro e w' ⟨rfl,rfl⟩))
 all_goals(go_wp2;go_ret;exact⟨rfl,rfl⟩)
theorem pg(w:aa)(mb d c a b:Nat)(t:bi)(x:al)(f:Cl w c a (.iface t x))(h:∀W,(Instr.typeAssert (.iface t x) 81 136 true).run prog W=.ok (.tuple #[.pointer none,.bool false]) W):
  cl 214 #[.slice (some (dq c a)) 1 b,Pt mb,Pt d] w (bD (dR 8) w):=by
 go_enter func214,ntmps214;go_wp2;go_ret;exact⟨rfl,rfl⟩
end Go.Proofs.YtlobegpjenabaaaGreatDoor
