import Derived.Test.YtlobegpjenabaaaGreatDoorT29
namespace Go.Proofs.YtlobegpjenabaaaGreatDoor
open Go.RowKit Tryz
set_option linter.unusedSimpArgs false
set_option linter.unusedVariables false
set_option maxRecDepth 100000
set_option maxHeartbeats 4000000
variable {B n L M m g lo' hi' K i N:Nat} {Y Y':a9} {fo:Sl} {cs:List Vc} {fx xs:List X} {mo ow o o' o1 o2:Nat->Option Nat} {e a:E} {w':aa} {z:BS} {vs:List V} {r r':RR} {q':jc} {R:D->V->Prop} {R':al->D->D->Prop} {x:X} {d':D} {l' f' ds ds' nd:List D} {f:D->Bool} {v1 v2 u1 u2 y:al} {c1 c2:bc} {s k t:au} {es:List E}
theorem E2(w:aa)(mo:Nat->Option Nat):fU w mo ((List.range 14).map λk=>V.proc (2 *k)) (aP.map AW):=
 ⟨.inl ⟨0,_,rfl,rfl,rfl⟩,.inl ⟨1,_,rfl,rfl,rfl⟩,.inl ⟨2,_,rfl,rfl,rfl⟩,.inl ⟨3,_,rfl,rfl,rfl⟩,.inl ⟨4,_,rfl,rfl,rfl⟩,.inl ⟨5,_,rfl,rfl,rfl⟩,.inl ⟨6,_,rfl,rfl,rfl⟩,.inl ⟨7,_,rfl,rfl,rfl⟩,.inl ⟨8,_,rfl,rfl,rfl⟩,.inl ⟨9,_,rfl,rfl,rfl⟩,.inl ⟨10,_,rfl,rfl,rfl⟩,.inl ⟨11,_,rfl,rfl,rfl⟩,.inl ⟨12,_,rfl,rfl,rfl⟩,.inl ⟨13,_,rfl,rfl,rfl⟩,trivial⟩
theorem Kf{w:aa}(hx:mu w B Y)(hB:B<=w.heap.size)(hL:LR w Y fo cs)(P:cs.length<=1000)(hX:XL w mo n cs fx)(W:n<=40)(U:∀i,mo (2 *i)=none)(V:∀i g,mo i=some g->g<w.heap.size)(E:∀i j g,mo i=some g->mo j=some g->i=j){e:bo}(h:Ob w fo e w'):
  ∃M Y' ow',e=.returned (Pt M)/\w.heap.size<=M/\RM B w' Y' ow' M fx 0 (.run (fR fx))/\Gw Y (λ_=>none) w Y' ow' w':=by
 classical
 obtain⟨M,F,f,rfl,I,h3,D,q,Z,hb⟩:=h;have C:sX w' 0 F f aP (aP.map AW):=⟨q.fc,ba q.nr (kc _),ba q.vr (kc _),q.ln⟩;have u:∀k,NH F f k->w.heap.size<=k:=λk l=>by
  rcases l with e|e|e
  .omega
  .exact(ar q.nr e).1
  .exact(ar q.vr e).1
 have hlt:∀k,Y k->k<w.heap.size:=λk l=>by obtain⟨_,c,T,h1,_⟩:=hx k l;exact ai h1
 have v:¬NH F f M:=λl=>by
  rcases l with e|e|e
  .exact mg D q.fc (by decide) e.symm
  .obtain⟨c,O⟩:=bt q.nr e;exact mg D O (by decide) rfl
  .obtain⟨c,O⟩:=bt q.vr e;exact mg D O (by decide) rfl
 have l:Mk B w' (λk=>Y k\/k=M\/NH F f k) (λk=>if k=M then some 0 else if NH F f k then some 1 else none) M:=by
  refine⟨λk t X=> ?_,λk l=> ?_,fN rfl⟩
  .split at X
   .exact .inr (.inl (by assumption))
   .split at X
    .exact .inr (.inr (by assumption))
    .cases X
  .rcases l with l|l|l
   .obtain⟨H,c,T,h1,h2⟩:=hx k l;exact⟨H,c,T,by rw[hb.block k (ai h1)];exact h1,h2⟩
   .subst l;exact⟨by omega,_,_,D,by decide⟩
   .exact⟨by have:=u k l;omega,C.Rl l⟩
 have S:=T6 hb;have G:Gn w Y w' (λk=>Y k\/k=M\/NH F f k):=λb J W=>⟨λe=>by
  rcases e with e|e|e
  .exact W e
  .omega
  .have:=u b e;omega,hb.block b J⟩
 refine⟨M,_,_,rfl,I,⟨0,by omega,mo,λi=>if i=0 then some F else none,_,D,⟨l,ku hB hb.size,⟨n,cs,W,hL.ak G,P,hX.ak S (TV _)⟩,rfl,λi fr hi=> ?_,λi p hi hp=> ?_,⟨by simp[fR],λi hi=> ?_⟩,⟨oh _ _ _ _,λk l=>(by cases l),by simp[fR]⟩,rfl,⟨rfl,rfl⟩,⟨F,rfl,rfl⟩,λi g A=>gr (V i g A) hb.size,λi g A=>(by rw[U] at A;cases A),E,λi g A=> ?_⟩,⟨rfl,rfl,0,rfl,kc _,rfl⟩,rfl⟩,⟨TW _ hb,λk _ G _=>.inl G,λk Q G=> ?_,λk Q _=> ?_⟩⟩
 .have H:i=0:=by have:=cy hi;simp[fR] at this;exact this
  subst H;cases hi;refine⟨F,f,_,rfl,?_,C,E2 _ _,λk l=> ?_,λk l=> ?_,Z⟩
  .show(if F=M then _ else _)=_;rw[fb (show ¬F=M from λe=>v (e▸.inl rfl)),fN (.inl rfl)]
  .show(if k=M then _ else _)=_;rw[fb (show ¬k=M from λe=>v (e▸.inr (.inl l))),fN (.inr (.inl l))]
  .show(if k=M then _ else _)=_;rw[fb (show ¬k=M from λe=>v (e▸.inr (.inr l))),fN (.inr (.inr l))]
 .have:=cy hp;simp[fR] at this;omega
 .show((List.range 14).map λk=>some (XP.first k))[i]? =_;simp[hi]
 .split at A
  .rename_i e;rw[e];simp[fR]
  .cases A
 .rcases G with e|e|e
  .exact e
  .omega
  .have:=u k e;omega
 .show(if k=M then _ else _)=_;rw[fb (by omega),fb (λe=>by have:=u k e;omega)]
def BQ(z:BS)(vs:List V):RR->jc->Prop
 |.run s,.run x=>Rel z vs s x/\s.st.length=x.ch.length+1
 |.err e d o,.err e' b a=>e=e'/\d=b/\o=a
 |.done t o,.done c a=>t=c/\o=a
 |_,_=>False
def GZ(z:BS):Prop:=cD z/\z.is.length<=1000000/\z.ns.length<=900000
theorem P2(p:GZ z)(n:Nat):∀{r:RR} {q:jc},BQ z vs r q->∃m r' q',QA (dp z vs) r n m r'/\K0 z vs n (m,q') q/\BQ z vs r' q'
 |.run s,.run x,h=>by
  obtain⟨F,K,c,r',q,u,v,b⟩:=sF p.1 ⟨p.2.1,by have:=p.2.2;omega⟩ n n (pW x) s x 0 (by omega) (ew _) (kc _) h.1;refine⟨c,r',q,⟨F,u⟩,⟨⟨p.1,p.2,s,h.1⟩,K,v⟩,?_⟩;cases r' with
  |run s'=>
   cases q with
   |run G=>
    refine⟨b.1,?_⟩;have l:=b.1.md;have j:=b.2;cases hx':G.md with
    |app q a=>
     rw[hx'] at l;obtain⟨_,_,_,A,_⟩:=l;obtain⟨t,r,C,D⟩:=A.top;rw[C,j1,D]
    |_=>rw[hx'] at j;cases j
   |_=>exact b.elim
  |err e d o=>cases q<;>first|exact b|exact b.elim
  |done t o=>cases q<;>first|exact b|exact b.elim
 |.err e d o,.err e' d' o',h=>⟨0,.err e d o,.err e' d' o',⟨rfl,rfl⟩,rfl,h⟩
 |.done t o,.done E o',h=>⟨0,.done t o,.done E o',⟨rfl,rfl⟩,rfl,h⟩
 |.run _,.err _ _ _,h=>h.elim
 |.run _,.done _ _,h=>h.elim
 |.err _ _ _,.run _,h=>h.elim
 |.err _ _ _,.done _ _,h=>h.elim
 |.done _ _,.run _,h=>h.elim
 |.done _ _,.err _ _ _,h=>h.elim
def O4:jc->List au
 |.run x=>x.out
 |.err _ _ o=>o
 |.done _ o=>o
theorem vR(c:Nat):∀{r:RR} {q:jc},BQ z vs r q->QF r=(mY c q).1/\QE r=(mY c q).2.1/\Qt r=((mY c q).2.2.1:Int)/\QG r=⟨(mY c q).2.2.2.toArray⟩/\Qu r=O4 q/\GO z vs r
 |.run s,.run x,h=>⟨rfl,rfl,by simp only[Qt,mY,h.2];simp,rfl,h.1.cm.out,⟨x,h.1⟩,by rw[h.2];omega⟩
 |.err e d o,.err e' d' o',h=>by obtain⟨rfl,rfl,rfl⟩:=h;exact⟨rfl,rfl,rfl,rfl,rfl,trivial⟩
 |.done t o,.done b o',h=>by obtain⟨rfl,rfl⟩:=h;exact⟨rfl,rfl,rfl,rfl,rfl,trivial⟩
 |.run _,.err _ _ _,h=>h.elim
 |.run _,.done _ _,h=>h.elim
 |.err _ _ _,.run _,h=>h.elim
 |.err _ _ _,.done _ _,h=>h.elim
 |.done _ _,.run _,h=>h.elim
 |.done _ _,.err _ _ _,h=>h.elim
structure Pm where
 L:Nat
 M:Nat
 D:Nat
 b:Nat
 K:Nat
 z:BS
 vs:List V
 fx:List X
structure Tn(B:Nat)(w:aa)(Y:a9)(o1 o2:Nat->Option Nat)(p:Pm)(r:RR)(q:jc):Prop where
 lm:LM w p.L p.M
 mw:MW B p.K w Y o1 p.M p.b (dp p.z p.vs) r
 rm:∃c,RM B w Y o2 p.D p.fx c q
 ap:fq o1 o2
 gz:GZ p.z
theorem LM.ki{w:aa}(h:LM w L M)(k:KI w w'):LM w' L M:=k _ (by decide) _ _ h
theorem RM.own{w:aa}{c:Nat}{q:jc}(h:RM B w Y ow M fx c q):(∀k t,ow k=some t->Y k)/\mu w B Y:=by
 obtain⟨_,_,h,_⟩:=h.at;exact⟨h.owx,h.xty⟩
theorem Tn.other{w:aa}{p:Pm}{q:jc}(h:Tn B w Y o1 o2 p r q)(b:Gw Y o w Y' o' w')(h1:fq o o1)(h2:fq o o2)(ho:∀k t,o k=some t->Y k)(j:mu w' B Y'):Tn B w' Y' o1 o2 p r q:=by
 have l:KI w w':=RS.Mg (K:=0) h.mw.own.2 ho b;obtain⟨c,u⟩:=h.rm;exact⟨h.lm.ki l,h.mw.other b h1 ho j,⟨c,u.other b h2 ho j⟩,h.ap,h.gz⟩
def Rt(B:Nat)(w:aa)(Y:a9)(o1 o2:Nat->Option Nat)(p:Pm)(m:Nat)(c:RR)(q:jc)(x y:al)(w':aa):Prop:=x=Jn (m:Nat)/\y=Jn 0/\∃b a,Tn B w' b a o2 p c q/\Gw Y o1 w b a w'/\mu w' B b
theorem Rb{w:aa}{p:Pm}{q:jc}(h:Tn B w Y o1 o2 p r q)(v:ErrT w)(hB:0<B)(C:n<=100000)(A:QA (dp p.z p.vs) r n m r'):cl 27 #[Pt p.L,Jn n] w (Ex (Rt B w Y o1 o2 p m r' q)):=by
 refine(Pa h.mw v hB h.lm C A).mono ?_;rintro e w' ⟨x,y,rfl,rfl,rfl,Y',j,hm,b⟩;obtain⟨c,l⟩:=h.rm;have u:=hm.own.2;exact⟨_,_,rfl,rfl,rfl,Y',j,⟨h.lm.ki (h.mw.ki b),hm,⟨c,l.other b h.ap h.mw.own.1 u⟩,h.ap.gw b h.mw.own.2 l.own.1,h.gz⟩,b,u⟩
def Ru(B:Nat)(w:aa)(Y:a9)(o1 o2:Nat->Option Nat)(p:Pm)(m:Nat)(r:RR)(c:jc)(e:bo)(w':aa):Prop:=e=.returned (.tuple #[Jn (m:Nat),Jn 0])/\∃b a,Tn B w' b o1 a p r c/\Gw Y o2 w b a w'/\mu w' B b
theorem Rc{w:aa}{p:Pm}{q:jc}(h:Tn B w Y o1 o2 p r q)(C:n<=100000)(v:K0 p.z p.vs n (m,q') q):cl 72 #[Pt p.D,Jn n] w (Ru B w Y o1 o2 p m r q'):=by
 obtain⟨c,b⟩:=h.rm;refine(Nb b n C (m,q') v).mono ?_;rintro e w' ⟨rfl,Y',l,hm,j⟩;have u:=hm.own.2;have A:KI w w':=RS.Mg (K:=0) b.own.2 b.own.1 j;exact⟨rfl,Y',l,⟨h.lm.ki A,h.mw.other j h.ap.symm b.own.1 u,⟨_,hm⟩,(h.ap.symm.gw j b.own.2 h.mw.own.1).symm,h.gz⟩,j,u⟩
def Q9(b:Nat):al:=.iface 136 (.pointer (some ⟨b,0,none⟩))
def I4:al->D->D
 |.iface _ (.pointer (some a)),.agg (x::r)=>.slice (x::r) [.lit (.int .i64 (a.block:Nat))]
 |_,d=>d
def iT(w:aa)(R:al->D->D->Prop):al->List D->List D->Prop
 |v,[],l'=>v=.iface 207 (.agg #[])/\l'=[]
 |v,d::r,l'=>∃b v1 e a c,v=Q9 b/\w.heap[b]? =some (Obj.cells #[v1,e] 205 (0,0))/\l'=a::c/\R v1 d a/\iT w R e r c
def tK(l:List D):Prop:=aO l=[113,117,111,116,101]/\l.length=2
instance (l:List D):Decidable (tK l):=by unfold tK;infer_instance
def sT(w:aa):Nat->al->D->D->Prop
 |0,_,_,_=>False
 |n+1,v,.agg l,a=>∃l',a=.agg l'/\iT w (λx d a=>if tK l then a=I4 x d else sT w n x d a) v l l'
 |_+1,_,d,a=>a=d
def qy(w:aa)(n:Nat):a7->List D->List D->Prop
 |[],[],[]=>True
 |v::vs,d::ds,b::a=>sT w n v d b/\qy w n vs ds a
 |_,_,_=>False
theorem iT.ak{w w':aa}{R R':al->D->D->Prop}(k:aC 205 w w')(hR:∀v d d',R v d d'->R' v d d'):∀{l l':List D} {v:al},iT w R v l l'->iT w' R' v l l'
 |[],_,_,h=>h
 |_::_,_,_,⟨b,v1,v2,d',r',h1,h2,h3,j,p⟩=>⟨b,v1,v2,d',r',h1,k _ _ h2,h3,hR _ _ _ j,iT.ak k hR p⟩
theorem sT.ak{w w':aa}(k:aC 205 w w'):∀(n:Nat) (v:al) (d d':D),sT w n v d d'->sT w' n v d d'
 |0,_,_,_,h=>h
 |n+1,v,d,d',h=>by
  cases d with
  |agg l=>
   obtain⟨l',h1,h2⟩:=h;refine⟨l',h1,h2.ak k λv d d' h=> ?_⟩;split
   .rename_i b;rw[fN b] at h;exact h
   .rename_i b;rw[fb b] at h;exact sT.ak k n v d d' h
  |_=>exact h
theorem qy.ak{w w':aa}(k:aC 205 w w')(n:Nat):∀{vs:a7} {ds ds':List D},qy w n vs ds ds'->qy w' n vs ds ds'
 |[],[],[],h=>h
 |_::_,_::_,_::_,h=>⟨sT.ak k n _ _ _ h.1,qy.ak k n h.2⟩
 |[],_::_,_,h=>h.elim
 |[],[],_::_,h=>h.elim
 |_::_,[],_,h=>h.elim
 |_::_,_::_,[],h=>h.elim
theorem Qf{w:aa}{x:al}{d:D}(h:IV w n x d):IV w n x (I4 x d):=by
 unfold I4;split
 .rename_i t a y r
  cases n with
  |zero=>exact h.elim
  |succ n=>
   obtain⟨b,v1,v2,e,_⟩:=id h.2;cases e;exact⟨h,by simp,b,rfl,rfl⟩
 .exact h
theorem tZ{w:aa}{n:Nat}{R:al->D->D->Prop}(hR:∀x d,IV w n x d->∃d',R x d d'/\IV w n x d'):∀(l:List D) (v:al),cK w (IV w n) v l->∃l',iT w R v l l'/\cK w (IV w n) v l'/\l'.length=l.length
 |[],v,h=>⟨[],⟨h,rfl⟩,h,rfl⟩
 |d::r,v,⟨b,v1,v2,h1,h2,h3,j⟩=>by
  obtain⟨d',k1,k2⟩:=hR v1 d h3;obtain⟨r',k3,p,q⟩:=tZ hR r v2 j;exact⟨d'::r',⟨b,v1,v2,d',r',h1,h2,rfl,k1,k3⟩,⟨b,v1,v2,h1,h2,k2,p⟩,by simp[q]⟩
theorem GW{w:aa}:∀(n:Nat) (v:al) (d:D),IV w n v d->∃d',sT w n v d d'/\IV w n v d'
 |0,_,_,h=>h.elim
 |n+1,v,d,h=>by
  cases d with
  |agg l=>
   obtain⟨l',h1,h2,h3⟩:=tZ (R:=λx d d'=>if tK l then d'=I4 x d else sT w n x d d') (λx d j=>by
    by_cases b:tK l
    .simp only[fN b];exact⟨_,rfl,Qf j⟩
    .simp only[fb b];exact GW n x d j) l v h.2
   exact⟨.agg l',⟨l',rfl,h1⟩,by rw[h3];exact h.1,h2⟩
  |_=>exact⟨_,rfl,h⟩
theorem Dq{w:aa}(n:Nat):∀(vs:a7) (ds:List D),cH w n vs ds->∃ds',qy w n vs ds ds'/\cH w n vs ds'
 |[],[],_=>⟨[],trivial,trivial⟩
 |v::vs,d::ds,h=>by
  obtain⟨d',h1,h2⟩:=GW n v d h.1;obtain⟨ds',h3,b⟩:=Dq n vs ds h.2;exact⟨d'::ds',⟨h1,h3⟩,h2,b⟩
 |[],_::_,h=>h.elim
 |_::_,[],h=>h.elim
mutual
inductive AV:D->D->Prop
 |same (d:D):AV d d
 |mark (l a:List D):AV (.agg l) (.slice l a)
 |list {l l':List D}:iF l l'->AV (.agg l) (.agg l')
inductive iF:List D->List D->Prop
 |nil:iF [] []
 |cons {d b:D} {r c:List D}:AV d b->iF r c->iF (d::r) (b::c)
end
theorem iF.refl:∀(l:List D),iF l l
 |[]=>.nil
 |d::r=>.cons (.same d) (iF.refl r)
theorem OU(x:al)(d:D):AV d (I4 x d):=by
 unfold I4;split
 .exact .mark _ _
 .exact .same _
theorem Dz{w:aa}{R:al->D->D->Prop}(hR:∀x d d',R x d d'->AV d d'):∀{l l':List D} {v:al},iT w R v l l'->iF l l'
 |[],_,_,h=>by rw[h.2];exact .nil
 |d::r,_,_,⟨b,v1,v2,d',r',_,_,h3,j,p⟩=>by rw[h3];exact .cons (hR _ _ _ j) (Dz hR p)
theorem sT.d{w:aa}:∀(n:Nat) (v:al) (d d':D),sT w n v d d'->AV d d'
 |0,_,_,_,h=>h.elim
 |n+1,v,d,d',h=>by
  cases d with
  |agg l=>
   obtain⟨l',rfl,h2⟩:=h;refine .list (Dz (λx d d' h=> ?_) h2);split at h
   .rw[h];exact OU _ _
   .exact sT.d n x d d' h
  |_=>have h:d'=_:=h;rw[h];exact .same _
theorem qy.l{w:aa}{n:Nat}:∀{vs:a7} {ds ds':List D},qy w n vs ds ds'->iF ds ds'
 |[],[],[],_=>.nil
 |_::_,_::_,_::_,h=>.cons (sT.d n _ _ _ h.1) (qy.l h.2)
 |[],_::_,_,h=>h.elim
 |[],[],_::_,h=>h.elim
 |_::_,[],_,h=>h.elim
 |_::_,_::_,[],h=>h.elim
theorem AV.facts{d:D}(h:AV d d'):cI d'=cI d/\bS d'=bS d/\aX d'=aX d/\iF (aE d) (aE d')/\(∀t,d=.lit (.string t)->d'=d):=by
 cases h with
 |same=>exact⟨rfl,rfl,rfl,iF.refl _,λ_ _=>rfl⟩
 |mark l a=>exact⟨rfl,rfl,rfl,iF.refl _,λ_ e=>by cases e⟩
 |list h=>exact⟨rfl,rfl,rfl,h,λ_ e=>by cases e⟩
theorem iF.len{l l':List D}(h:iF l l'):l'.length=l.length:=by
 cases h with
 |nil=>rfl
 |cons _ h=>simp[iF.len h]
theorem iF.tail{l:List D}(h:iF l l'):iF l.tail l'.tail:=by
 cases h with
 |nil=>exact .nil
 |cons _ h=>exact h
theorem iF.drop{l l':List D}(h:iF l l'):∀n,iF (l.drop n) (l'.drop n)
 |0=>h
 |n+1=>by
  cases h with
  |nil=>exact .nil
  |cons _ h=>exact iF.drop h n
theorem iF.getD{l l':List D}(h:iF l l')(z:D):∀i,AV (l.getD i z) (l'.getD i z):=λi=>by
 cases h with
 |nil=>exact .same _
 |cons h1 h=>cases i with
  |zero=>exact h1
  |succ i=>exact iF.getD h z i
theorem E8(d:D)(r r':List D):aO (d::r')=aO (d::r):=by
 cases d with
 |lit l=>cases l<;>rfl
 |_=>rfl
theorem iF.head{l:List D}(h:iF l l'):aO l'=aO l:=by
 cases h with
 |nil=>rfl
 |cons h1 _=>cases h1 with
  |same=>exact E8 _ _ _
  |mark=>rfl
  |list=>rfl
theorem iF.all{f:D->Bool}(hf:∀d d',AV d d'->f d'=f d){l l':List D}(h:iF l l'):l'.all f=l.all f:=by
 cases h with
 |nil=>rfl
 |cons h1 h=>simp only[R7,hf _ _ h1,iF.all hf h]
theorem iF.vars{l l':List D}(h:iF l l'):∀s,bn s l'=bn s l:=λs=>by
 cases h with
 |nil=>rfl
 |cons h1 h=>simp only[bn,h1.facts.1,h1.facts.2.1,iF.vars h]
theorem iF.binds{f:D->Bool}(hf:∀d d',AV d d'->f d'=f d){l l':List D}(h:iF l l'):∀s,jg f s l'=jg f s l:=λs=>by
 cases h with
 |nil=>rfl
 |cons h1 h=>simp only[jg,h1.facts.2.2.1,h1.facts.2.2.2.1.len,hf _ _ (h1.facts.2.2.2.1.getD (ju []) 1),iF.binds hf h]
theorem iF.Iq{l l':List D}(h:iF l l'):iF (l.map λb=>(aE b).getD 0 (num 0)) (l'.map λb=>(aE b).getD 0 (num 0)):=by
 cases h with
 |nil=>exact .nil
 |cons h1 h=>exact .cons (h1.facts.2.2.2.1.getD (num 0) 0) (iF.Iq h)
theorem yS:∀(n:Nat) (d d':D),AV d d'->aG n d'=aG n d
 |0,_,_,_=>rfl
 |n+1,d,d',h=>by
  cases h with
  |same=>rfl
  |mark=>rfl
  | @list l l' h=>
   have hf:=yS n;have b:=(h.getD (num 0) 1).facts.2.2.2.1;have j:=h.head;have e2:=h.len;have e3:=h.tail.all hf;have p:=(h.drop 2).all hf;have e5:=(h.getD (ju []) 1).facts.1;have q:=(h.getD (num 0) 1).facts.2.2.1;have u:=b.vars [];have v:=b.len;have A:=(b.getD (num 0) 0).facts.1;have e10:=b.tail.vars [];have e11:=b.binds hf [];have e12:=b.Iq.vars [];have e13:=h.all hf;have e14:l'.isEmpty=l.isEmpty:=by cases h<;>rfl
   simp only[aG,j,e2,e3,p,e5,q,u,v,A,e10,e11,e12,e13,e14]
theorem Ha(n:Nat){f f':List D}(h:iF f f'):∀i,dX n i f'=dX n i f:=λi=>by
 cases h with
 |nil=>rfl
 |cons h1 h=>simp only[dX,yS n _ _ h1,Ha n h]
mutual
theorem Pk {d a:D}:AV d a->kZ a=kZ d
 |.same _=>rfl
 |.mark _ _=>rfl
 |.list h=>by simp only[kZ,xS h]
theorem xS {l l':List D}:iF l l'->fT l'=fT l
 |.nil=>rfl
 |.cons h1 h=>by simp only[fT,Pk h1,xS h]
end
inductive Gm(w:aa):al->bc->Nat->Nat->Prop
 |here {v v1 a:al} {c c1 c2:bc} {b g:Nat}:lG w v b v1 a->qg w c g c1 c2->Gm w v c b g
 |fst {v v1 a:al} {c c1 c2:bc} {b g d e:Nat}:lG w v d v1 a->qg w c e c1 c2->Gm w v1 c1 b g->Gm w v c b g
 |rst {v v1 a:al} {c c1 c2:bc} {b g d e:Nat}:lG w v d v1 a->qg w c e c1 c2->Gm w a c2 b g->Gm w v c b g
theorem lG.qm{w:aa}{v:al}{b c:Nat}(h:lG w v b v1 v2)(k:lG w v c u1 u2):b=c/\v1=u1/\v2=u2:=by
 obtain⟨h1,h2⟩:=h;obtain⟨k1,k2⟩:=k;rw[h1] at k1;cases k1;rw[h2] at k2;cases k2;exact⟨rfl,rfl,rfl⟩
theorem qg.qm{w:aa}{v v1 v2 u1 u2:bc}{b c:Nat}(h:qg w v b v1 v2)(k:qg w v c u1 u2):b=c/\v1=u1/\v2=u2:=by
 obtain⟨h1,h2,h3⟩:=h;obtain⟨k1,k2,k3⟩:=k;rw[h1] at k1;have e:b=c:=by simpa[az] using k1
 subst e;rw[h2] at k2;have e2:v1++v2=u1++u2:=by injection k2 with k2;injection k2
 have:=Array.append_inj e2 (by rw[h3,k3]);exact⟨rfl,this.1,this.2⟩
theorem sV.parts{w:aa}{lo hi b:Nat}{v:al}(h:Sp w lo hi v)(k:lG w v b v1 v2):∃m,Sp w lo m v1/\Sp w m b v2/\b<hi:=by
 cases h with
 |atom _ _ _ _ l=>exact absurd k.1 (l b)
 |pair _ m _ _ _ _ _ h1 h2 h3 j=>
  obtain⟨rfl,rfl,rfl⟩:=k.qm h1;exact⟨m,h2,h3,j⟩
theorem sV.oI{w:aa}{lo hi b:Nat}{v v1 v2:bc}(h:Gp w lo hi v)(k:qg w v b v1 v2):∃m,Gp w lo m v1/\Gp w m b v2/\b<hi:=by
 cases h with
 |atom _ _ _ _ l=>exact absurd k.1 (l b)
 |pair _ m _ _ _ _ _ h1 h2 h3 j=>
  obtain⟨rfl,rfl,rfl⟩:=k.qm h1;exact⟨m,h2,h3,j⟩
theorem Gm.range{w:aa}{v:al}{c:bc}{b:Nat}(h:Gm w v c b g):∀{lo hi lo' hi':Nat},Sp w lo hi v->Gp w lo' hi' c->(lo<=b/\b<hi)/\lo'<=g/\g<hi':=by
 induction h with
 |here h1 h2=>
  intro lo hi lo' hi' s r;obtain⟨m,j,l,p⟩:=s.parts h1;obtain⟨u,b1,b2,q⟩:=r.oI h2;have:=j.le;have:=l.le;have:=b1.le;have:=b2.le;omega
 |fst h1 h2 _ ih=>
  intro lo hi lo' hi' s r;obtain⟨m,j,l,p⟩:=s.parts h1;obtain⟨u,b1,b2,q⟩:=r.oI h2;have:=ih j b1;have:=l.le;have:=b2.le;omega
 |rst h1 h2 _ ih=>
  intro lo hi lo' hi' s r;obtain⟨m,j,l,p⟩:=s.parts h1;obtain⟨u,b1,b2,q⟩:=r.oI h2;have:=ih l b2;have:=j.le;have:=b1.le;omega
theorem Gm.iff{w:aa}{v:al}{c:bc}{b:Nat}(h:Gm w v c b g):∀{lo hi lo' hi' p q:Nat},Sp w lo hi v->Gp w lo' hi' c->Gm w v c p q->(b=p↔g=q):=by
 induction h with
 |here h1 h2=>
  intro lo hi lo' hi' p q s r k;obtain⟨m,l,j,u⟩:=s.parts h1;obtain⟨C,b1,b2,A⟩:=r.oI h2;have:=j.le;have:=b2.le;cases k with
  |here k1 k2=>
   obtain⟨rfl,_,_⟩:=h1.qm k1;obtain⟨rfl,_,_⟩:=h2.qm k2;exact⟨λ_=>rfl,λ_=>rfl⟩
  |fst k1 k2 k3=>
   obtain⟨rfl,rfl,rfl⟩:=h1.qm k1;obtain⟨rfl,rfl,rfl⟩:=h2.qm k2;have:=k3.range l b1;omega
  |rst k1 k2 k3=>
   obtain⟨rfl,rfl,rfl⟩:=h1.qm k1;obtain⟨rfl,rfl,rfl⟩:=h2.qm k2;have:=k3.range j b2;omega
 |fst h1 h2 h3 ih=>
  intro lo hi lo' hi' p q s r k;obtain⟨m,l,j,u⟩:=s.parts h1;obtain⟨C,b1,b2,A⟩:=r.oI h2;have:=j.le;have:=b2.le;have:=h3.range l b1;cases k with
  |here k1 k2=>
   obtain⟨rfl,_,_⟩:=h1.qm k1;obtain⟨rfl,_,_⟩:=h2.qm k2;omega
  |fst k1 k2 k3=>
   obtain⟨rfl,rfl,rfl⟩:=h1.qm k1;obtain⟨rfl,rfl,rfl⟩:=h2.qm k2;exact ih l b1 k3
  |rst k1 k2 k3=>
   obtain⟨rfl,rfl,rfl⟩:=h1.qm k1;obtain⟨rfl,rfl,rfl⟩:=h2.qm k2;have:=k3.range j b2;omega
 |rst h1 h2 h3 ih=>
  intro lo hi lo' hi' p q s r k;obtain⟨m,l,j,u⟩:=s.parts h1;obtain⟨C,b1,b2,A⟩:=r.oI h2;have:=l.le;have:=b1.le;have:=h3.range j b2;cases k with
  |here k1 k2=>
   obtain⟨rfl,_,_⟩:=h1.qm k1;obtain⟨rfl,_,_⟩:=h2.qm k2;omega
  |fst k1 k2 k3=>
   obtain⟨rfl,rfl,rfl⟩:=h1.qm k1;obtain⟨rfl,rfl,rfl⟩:=h2.qm k2;have:=k3.range l b1;omega
  |rst k1 k2 k3=>
   obtain⟨rfl,rfl,rfl⟩:=h1.qm k1;obtain⟨rfl,rfl,rfl⟩:=h2.qm k2;exact ih j b2 k3
def jB(w:aa):a7->List bc->Nat->Nat->Prop
 |v::vs,c::cs,b,g=>Gm w v c b g\/jB w vs cs b g
 |_,_,_,_=>False
theorem jB.range{w:aa}:∀{vs:a7} {cs:List bc} {lo hi lo' hi' b g:Nat},jB w vs cs b g->qh w lo vs hi->ko w lo' cs hi'->(lo<=b/\b<hi)/\lo'<=g/\g<hi'
 |v::vs,c::cs,lo,hi,lo',hi',b,g,h,⟨m,j,l⟩,⟨p,r1,r2⟩=>by
  have:=j.le;have:=l.le;have:=r1.le;have:=r2.le;rcases h with h|h
  .have:=h.range j r1;omega
  .have:=jB.range h l r2;omega
 |[],_,_,_,_,_,_,_,h,_,_=>h.elim
 |_::_,[],_,_,_,_,_,_,h,_,_=>h.elim
theorem jB.iff{w:aa}:∀{vs:a7} {cs:List bc} {lo hi lo' hi' b g j l:Nat},jB w vs cs b g->jB w vs cs j l->qh w lo vs hi->ko w lo' cs hi'->(b=j↔g=l)
 |v::vs,c::cs,lo,hi,lo',hi',b,g,j,l,h,k,⟨m,p,q⟩,⟨u,r1,r2⟩=>by
  rcases h with h|h
  .rcases k with k|k
   .exact h.iff p r1 k
   .have:=h.range p r1;have:=jB.range k q r2;omega
  .rcases k with k|k
   .have:=k.range p r1;have:=jB.range h q r2;omega
   .exact jB.iff h k q r2
 |[],_,_,_,_,_,_,_,_,_,h,_,_,_=>h.elim
 |_::_,[],_,_,_,_,_,_,_,_,h,_,_,_=>h.elim
theorem Ql{w:aa}{vs:a7}{cs:List bc}{lo hi:Nat}(p:qh w lo vs hi)(l:ko w lo' cs hi'):∃mo:Nat->Option Nat,(∀b g,jB w vs cs b g->mo (2 *b+1)=some g)/\(∀i,mo (2 *i)=none)/\(∀i j g,mo i=some g->mo j=some g->i=j)/\∀i g,mo i=some g->g<hi':=by
 classical
 have key:∀i g,(if h:i%2=1/\∃g,jB w vs cs (i/2) g then some (Classical.choose h.2) else none)=some g->i%2=1/\jB w vs cs (i/2) g:=λi g h=>by
  split at h
  .rename_i q
   have:=SE q.2;rw[pb h] at this;exact⟨q.1,this⟩
  .cases h
 refine⟨λi=>if h:i%2=1/\∃g,jB w vs cs (i/2) g then some (Classical.choose h.2) else none,λb g h=> ?_,λi=> ?_,λi j g hi v=> ?_,λi g h=> ?_⟩
 .have q:(2 *b+1)%2=1/\∃g,jB w vs cs ((2 *b+1)/2) g:=⟨by omega,g,by rw[show(2 *b+1)/2=b by omega];exact h⟩;show dite _ _ _=_;rw[S3 q];exact Sq some ((jB.iff (SE q.2) h p l).1 (by omega))
 .show dite _ _ _=_;rw[Tk (λq=>by omega)]
 .obtain⟨h1,h2⟩:=key i g hi;obtain⟨h3,u⟩:=key j g v;have:=(jB.iff h2 u p l).2 rfl;omega
 .exact(jB.range (key i g h).2 p l).2.2
def HM(w:aa)(mo:Nat->Option Nat)(v:al)(c:bc):Prop:=∀b g,Gm w v c b g->mo (2 *b+1)=some g
theorem HM.parts{w:aa}{v:al}{c:bc}{b:Nat}(h:HM w mo v c)(k1:lG w v b v1 v2)(k2:qg w c g c1 c2):mo (2 *b+1)=some g/\HM w mo v1 c1/\HM w mo v2 c2:=⟨h _ _ (.here k1 k2),λb g q=>h _ _ (.fst k1 k2 q),λb g q=>h _ _ (.rst k1 k2 q)⟩
theorem Vc.inj{a b:Vc}(h:a.c=b.c):a=b:=by
 obtain⟨k,n,s,p,f⟩:=a;obtain⟨k2,l,u,q,j⟩:=b;simp[Vc.c] at h;simp[h]
theorem iu{w:aa}{c:Vc}{d:D}{r:List D}(h:dd w (RV w n) c.c (d::r)):∃g c1 c2,c=eg g/\gY w g c1 c2/\qg w c.c g c1.c c2.c/\RV w n c1.c d/\dd w (RV w n) c2.c r:=by
 obtain⟨g,v,A,h1,h2,h3,C,b,j⟩:=h;obtain⟨k,m,s,p,rfl⟩:=T7 _ _ _ b;obtain⟨l,q,s',u,rfl⟩:=j.form;have e:c=eg g:=Vc.inj (by rw[h1];rfl);exact⟨g,⟨k,m,s,p,none⟩,⟨l,q,s',u,none⟩,e,h2,⟨h1,h2,rfl⟩,b,j⟩
theorem DB(h:jj K i=some g):i=2 *g+1:=by
 unfold jj at h;split at h
 .have:=pb h;omega
 .cases h
theorem yv{w:aa}{mo:Nat->Option Nat}{K n:Nat}(ih:∀(d:D) (x:al) (c:Vc) (v:V),IV w n x d->RV w n c.c d->HM w mo x c.c->VX w (jj K) v x->RX w mo v c):∀(l:List D) (x:al) (c:Vc) (v:V),cK w (IV w n) x l->dd w (RV w n) c.c l->HM w mo x c.c->VX w (jj K) v x->RX w mo v c
 |[],x,c,v,h1,h2,_,h=>by
  have h1:x=_:=h1;have h2:c=cQ 4 0:=Vc.inj h2;subst h1;cases v with
  |empty=>exact h2
  |pair id a b=>obtain⟨_,_,_,_,e,_⟩:=h;cases e
  |proc id=>obtain⟨_,_,_,e⟩:=h;cases e
  |int k=>cases h.1
  |sym s=>cases h.1
  |_=>cases h
 |d::r,x,c,v,⟨b,x1,x2,h1,h2,h3,q⟩,u,hm,h=>by
  obtain⟨g,c1,c2,rfl,k1,k2,k3,A⟩:=iu u;obtain⟨C,E,F⟩:=hm.parts ⟨h1,h2⟩ k2;subst h1;cases v with
  |pair id a p=>
   obtain⟨O,P,Q,G,H,j,I,J⟩:=h;cases H;rw[h2] at j;cases j;rw[DB G];exact⟨g,c1,c2,C,rfl,k1,ih d _ c1 a h3 k3 E I,yv ih r _ c2 p q A F J⟩
  |proc id=>obtain⟨_,_,_,e⟩:=h;cases e
  |int k=>cases h.1
  |sym s=>cases h.1
  |_=>cases h
theorem DC{w:aa}{mo:Nat->Option Nat}{K:Nat}:∀(n:Nat) (d:D) (x:al) (c:Vc) (v:V),IV w n x d->RV w n c.c d->HM w mo x c.c->VX w (jj K) v x->RX w mo v c
 |0,_,_,_,_,h,_,_,_=>h.elim
 |n+1,.agg l,x,c,v,h1,h2,hm,j=>yv (DC n) l x c v h1.2 h2.2 hm j
 |n+1,.lit (.int k m),x,c,v,h1,h2,hm,j=>by
  cases k<;>first|(cases h1;done)|skip
  have h1:some _=some x:=h1;have h2:some (az 1 m aZ none)=some c.c:=h2;cases h1;have e:c=cQ 1 m:=Vc.inj (pb h2).symm;cases v with
  |int k=>obtain⟨p,q⟩:=j;cases p;exact⟨e,q⟩
  |pair id a b=>obtain⟨_,_,_,_,e,_⟩:=j;cases e
  |proc id=>obtain⟨_,_,_,e⟩:=j;cases e
  |sym s=>cases j.1
  |_=>cases j
 |n+1,.lit (.bool b),x,c,v,h1,h2,hm,j=>by
  have h1:some _=some x:=h1;have h2:some (az 2 (if b then 1 else 0) aZ none)=some c.c:=h2;cases h1;have e:c=cQ 2 (if b then 1 else 0):=Vc.inj (pb h2).symm;cases v with
  |bool k=>cases j;exact e
  |pair id a b=>obtain⟨_,_,_,_,e,_⟩:=j;cases e
  |proc id=>obtain⟨_,_,_,e⟩:=j;cases e
  |int k=>cases j.1
  |sym s=>cases j.1
  |_=>cases j
 |n+1,.lit (.string t),x,c,v,h1,h2,hm,j=>by
  have h1:some _=some x:=h1;have h2:some (az 3 0 ⟨t.toArray⟩ none)=some c.c:=h2;cases h1;have e:c=dy t:=Vc.inj (pb h2).symm;cases v with
  |sym s=>
   obtain⟨p,q⟩:=j;have:t=s:=by simpa using p
   subst this;exact⟨e,q⟩
  |pair id a b=>obtain⟨_,_,_,_,e,_⟩:=j;cases e
  |proc id=>obtain⟨_,_,_,e⟩:=j;cases e
  |int k=>cases j.1
  |_=>cases j
 |n+1,.lit (.float _ _),_,_,_,h,_,_,_=>by cases h
 |n+1,.lit .nil,_,_,_,h,_,_,_=>by cases h
 |n+1,.nil,_,_,_,h,_,_,_=>by cases h
 |n+1,.ptr _,_,_,_,h,_,_,_=>by cases h
 |n+1,.slice _ _,_,_,_,_,h,_,_=>by cases h
 |n+1,.iface _ _,_,_,_,h,_,_,_=>by cases h
 |n+1,.map _,_,_,_,h,_,_,_=>by cases h
 |n+1,.held _,_,_,_,h,_,_,_=>by cases h
theorem n5{d:D}(h:gP R (.const d) x):∃v,x=.const v/\R d v:=by
 cases x<;>simp only[gP] at h;exact⟨_,rfl,h⟩
theorem yP(h:gP R .nothing x):x=.const .nothing:=by
 cases x<;>simp only[gP] at h;rw[h]
theorem LQ(h:gP R (.var s) x):x=.var s:=by
 cases x<;>simp only[gP] at h;rw[h]
theorem DE{b c:E}(h:gP R (.ite a b c) x):∃p q r,x=.ite p q r/\gP R a p/\gP R b q/\gP R c r:=by
 cases x<;>simp only[gP] at h;exact⟨_,_,_,rfl,h⟩
theorem rC(h:gP R (.define s a) x):∃p,x=.define s p/\gP R a p:=by
 cases x<;>simp only[gP] at h;exact⟨_,by rw[h.1],h.2⟩
theorem LP(h:gP R (.set s a) x):∃p,x=.set s p/\gP R a p:=by
 cases x<;>simp only[gP] at h;exact⟨_,by rw[h.1],h.2⟩
theorem jM{nm:au}{xs:List au}(h:gP R (.lambda nm xs a) x):∃p,x=.lambda xs p/\gP R a p:=by
 cases x<;>simp only[gP] at h;exact⟨_,by rw[h.1],h.2⟩
theorem LN(h:gP R (.seq es) x):∃xs,x=.seq xs/\eF R es xs:=by
 cases x<;>simp only[gP] at h;exact⟨_,rfl,h⟩
theorem um(h:gP R (.apply es) x):∃xs,x=.apply xs/\eF R es xs:=by
 cases x<;>simp only[gP] at h;exact⟨_,rfl,h⟩
theorem Il(h:gP R (G3 s a) x):∃p,x=.define s p/\gP R a p:=by
 cases a with
 |lambda nm xs b=>
  obtain⟨p,rfl,h2⟩:=rC (a:=.lambda s xs b) h;obtain⟨q,rfl,h3⟩:=jM h2;exact⟨_,rfl,by simp only[gP];exact⟨trivial,h3⟩⟩
 |_=>exact rC h
theorem jm(h:eF R (e::es) xs):∃x r,xs=x::r/\gP R e x/\eF R es r:=by
 cases xs<;>simp only[eF] at h;exact⟨_,_,rfl,h⟩
theorem yQ(h:eF R [] xs):xs=[]:=by
 cases xs<;>simp only[eF] at h;rfl
theorem sT.up{w:aa}:∀(n:Nat) (v:al) (d d':D),sT w n v d d'->sT w (n+1) v d d'
 |0,_,_,_,h=>h.elim
 |n+1,v,d,d',h=>by
  cases d with
  |agg l=>
   obtain⟨l',h1,h2⟩:=h;refine⟨l',h1,h2.ak (TY w) λv d d' h=> ?_⟩;split
   .rename_i b;rw[fN b] at h;exact h
   .rename_i b;rw[fb b] at h;exact sT.up n v d d' h
  |_=>exact h
def It(w:aa)(mo:Nat->Option Nat)(n:Nat)(d a:D)(c:Vc):Prop:=∃y,sT w n y d a/\IV w n y d/\RV w n c.c d/\HM w mo y c.c/\tI d
def sY(w:aa)(mo:Nat->Option Nat)(n:Nat):List D->List D->List Vc->Prop
 |[],[],[]=>True
 |d::ds,b::a,c::cs=>It w mo n d b c/\sY w mo n ds a cs
 |_,_,_=>False
theorem It.up{w:aa}{d:D}{c:Vc}(h:It w mo n d d' c):It w mo (n+1) d d' c:=by
 obtain⟨y,h1,h2,h3,b⟩:=h;exact⟨y,sT.up _ _ _ _ h1,IV.up _ _ _ h2,RV.up _ _ _ h3,b⟩
theorem It.and{w:aa}{d:D}{c:Vc}(h:It w mo n d d' c):AV d d':=by
 obtain⟨y,h1,_⟩:=h;exact sT.d _ _ _ _ h1
theorem sY.NM{w:aa}{mo:Nat->Option Nat}{n:Nat}:∀{ds ds':List D} {cs:List Vc},sY w mo n ds ds' cs->iF ds ds'/\cs.length=ds.length
 |[],[],[],_=>⟨.nil,rfl⟩
 |_::_,_::_,_::_,h=>⟨.cons h.1.and (sY.NM h.2).1,by simp[(sY.NM h.2).2]⟩
 |[],[],_::_,h=>h.elim
 |[],_::_,_,h=>h.elim
 |_::_,[],_,h=>h.elim
 |_::_,_::_,[],h=>h.elim
theorem KK{w:aa}{mo:Nat->Option Nat}{n:Nat}:∀(l l':List D) (x:al) (c:Vc),iT w (sT w n) x l l'->cK w (IV w n) x l->dd w (RV w n) c.c l->HM w mo x c.c->lE l->∃cs,eC w c cs/\sY w mo n l l' cs
 |[],l',x,c,h1,h2,h3,p,_=>by
  rw[h1.2];exact⟨[],Vc.inj h3,trivial⟩
 |d::r,l',x,c,⟨b,x1,x2,d',r',j,e2,e3,q,e5⟩,⟨b2,O,P,u,v,A,C⟩,h3,p,h=>by
  obtain⟨g,c1,c2,rfl,k1,k2,k3,E⟩:=iu h3;obtain⟨rfl,rfl,rfl⟩:=lG.qm ⟨j,e2⟩ ⟨u,v⟩;obtain⟨J,F,G⟩:=p.parts ⟨j,e2⟩ k2;obtain⟨cs,H,I⟩:=KK r r' x2 c2 e5 C E G h.2;rw[e3];exact⟨c1::cs,⟨g,c2,rfl,k1,H⟩,⟨x1,q,A,k3,F,h.1⟩,I⟩
theorem It.list{w:aa}{l:List D}{c:Vc}(h:It w mo (n+1) (.agg l) d' c)(p:¬tK l):∃l' cs,d'=.agg l'/\eC w c cs/\sY w mo n l l' cs/\l.length<=1000:=by
 obtain⟨y,⟨l',e,h1⟩,h2,h3,b,j⟩:=h;have h1:iT w (sT w n) y l l':=h1.ak (TY w) λv d d' h=>by rw[fb p] at h;exact h
 obtain⟨cs,k1,k2⟩:=KK l l' y c h1 h2.2 h3.2 b j;exact⟨l',cs,e,k1,k2,h2.1⟩
theorem CH{l:List D}(h:tK l):∃q,l=[.lit (.string kL),q]:=by
 obtain⟨h1,h2⟩:=h
 match l,h1,h2 with
 |[a,q],h1,_=>
  cases a with
  |lit t=>
   cases t with
   |string s=>
    simp only[aO] at h1;split at h1
    .exact⟨q,by rw[h1];rfl⟩
    .cases h1
   |_=>cases h1
  |_=>cases h1
theorem L4{l:List D}(h:aO l=k)(b:k≠[]):∃r,l=.lit (.string k)::r:=by
 match l,h with
 |[],h=>exact absurd h.symm b
 |a::r,h=>
  cases a with
  |lit t=>
   cases t with
   |string s=>
    simp only[aO] at h;split at h
    .exact⟨r,by rw[h]⟩
    .exact absurd h.symm b
   |_=>exact absurd h.symm b
  |_=>exact absurd h.symm b
theorem It.sym{w:aa}{c:Vc}(h:It w mo n (.lit (.string t)) d' c):d'=.lit (.string t)/\c=dy t/\t.length<=8000:=by
 obtain⟨y,h1,h2,h3,_,b⟩:=h;cases n with
 |zero=>exact h2.elim
 |succ n=>
  have h3:some (az 3 0 ⟨t.toArray⟩ none)=some c.c:=h3;exact⟨h1,Vc.inj (pb h3).symm,b⟩
theorem It.var{w:aa}{d:D}{c:Vc}(h:It w mo n d d' c)(b:cI d'=true):∃t,d=.lit (.string t)/\bS d'=t/\c=dy t:=by
 rw[h.and.facts.1] at b;cases d with
 |lit l=>
  cases l with
  |string t=>obtain⟨h1,h2,_⟩:=h.sym;exact⟨t,rfl,by rw[h1];rfl,h2⟩
  |_=>cases b
 |_=>cases b
theorem rZ{w:aa}{n:Nat}:∀(l:List D) (s:List au) (c:Vc),dd w (RV w n) c.c l->bn s l=true->eC w c ((l.map bS).map dy)
 |[],s,c,h,_=>Vc.inj h
 |d::r,s,c,h,b=>by
  obtain⟨g,c1,c2,rfl,k1,_,k3,p⟩:=iu h;simp only[bn,rr] at b;have j:=b.1.1;cases d with
  |lit l=>
   cases l with
   |string t=>
    cases n with
    |zero=>exact k3.elim
    |succ n=>
     have k3:some (az 3 0 ⟨t.toArray⟩ none)=some c1.c:=k3;have e:c1=dy t:=Vc.inj (pb k3).symm;subst e;exact⟨g,c2,rfl,k1,rZ r _ c2 p b.2⟩
   |_=>cases j
  |_=>cases j
theorem It.QB{w:aa}{d:D}{c:Vc}(h:It w mo n d d' c)(b:aX d'=true):∃m l,n=m+1/\d=.agg l/\dd w (RV w m) c.c l/\l.length<=1000/\iF l (aE d'):=by
 have hf:=h.and.facts;obtain⟨y,h1,h2,h3,_,j⟩:=h;rw[hf.2.2.1] at b;cases n with
 |zero=>exact h2.elim
 |succ n=>
  cases d with
  |agg l=>exact⟨n,l,rfl,rfl,h3.2,h3.1,hf.2.2.2.1⟩
  |slice l a=>cases h3
  |_=>cases b
theorem oy:∀{l l':List D},iF l l'->l'.map bS=l.map bS:=λ{l l'} h=>by
 cases h with
 |nil=>rfl
 |cons h1 h=>simp only[v6,h1.facts.2.1,oy h]
theorem It.names{w:aa}{d:D}{c:Vc}(h:It w mo n d d' c)(q:aX d'=true)(j:bn [] (aE d')=true):eC w c (((aE d').map bS).map dy)/\((aE d').map bS).length<=1000:=by
 obtain⟨m,l,rfl,rfl,h3,p,b⟩:=h.QB q;rw[b.vars] at j;rw[oy b];exact⟨rZ l _ c h3 j,by rw[ta];exact p⟩
theorem qW{w:aa}(C:∀v∈vs,∃y,VX w (jj K) v y){q:D}{c:Vc}{v:V}(h1:IV w n y q)(h2:RV w n c.c q)(h3:HM w mo y c.c)(j:DW N vs (I4 y q) v):RX w mo v c:=by
 obtain⟨j,hm⟩:=j;obtain⟨A,u⟩:=C v hm
 suffices e:A=y by subst e;exact DC n q A c v h1 h2 h3 u
 cases N with
 |zero=>exact j.elim
 |succ N=>
 cases n with
 |zero=>exact h1.elim
 |succ n=>
 cases q with
 |agg l=>
  cases l with
  |nil=>
   have e:I4 y (.agg [])=.agg []:=by unfold I4;split<;>first|rfl|(rename_i h;cases h)
   rw[e] at j;have j:v=.empty:=j;subst j;have h1:y=_:=h1.2;have u:A=_:=u;rw[h1,u]
  |cons a r=>
   obtain⟨b,v1,v2,rfl,_⟩:=h1.2;have j:DV (N+1) (.slice (a::r) [.lit (.int .i64 (b:Nat))]) v:=j;obtain⟨_,E,e,p,q,rfl⟩:=j;obtain⟨g,_,_,F,rfl,_⟩:=u;have:=DB F;have e:b=E:=by simp at e;omega
   rw[show g=b by omega]
 |lit t=>
  cases t with
  |int k m=>
   cases k<;>first|(cases h1;done)|skip
   have h1:some _=some y:=h1;cases h1;have j:v=.int m:=j;subst j;exact u.1
  |bool b=>
   have h1:some _=some y:=h1;cases h1;have j:v=.bool b:=j;subst j;exact u
  |string t=>
   have h1:some _=some y:=h1;cases h1;have j:v=.sym t:=j;subst j;exact u.1
  |_=>cases h1
 |slice l a=>cases h2
 |_=>cases h1
section
variable {w:aa} {mo:Nat->Option Nat} {K N:Nat} {vs:List V} {n:Nat} (ih:∀(d d':D) (c:Vc) (e:E) (x:X),It w mo n d d' c->aN n d'=some e->gP (DW N vs) e x->XX w mo n c x)
include ih
theorem jL:∀{ds ds':List D} {cs:List Vc} {es:List E} {xs:List X},sY w mo n ds ds' cs->bF (aN n) ds'=some es->eF (DW N vs) es xs->XL w mo n cs xs
 |[],[],[],es,xs,_,h,b=>by cases h;rw[yQ b];exact .nil _
 |d::ds,d'::ds',c::cs,es,xs,hi,h,b=>by
  simp only[bF] at h;split at h
  .rename_i e j
   split at h
   .rename_i r l
    cases h;obtain⟨x,r',rfl,h1,h2⟩:=jm b;exact .cons _ _ _ _ _ (ih _ _ _ _ _ hi.1 j h1) (jL hi.2 l h2)
   .cases h
  .cases h
 |[],[],_::_,_,_,h,_,_=>h.elim
 |[],_::_,_,_,_,h,_,_=>h.elim
 |_::_,[],_,_,_,h,_,_=>h.elim
 |_::_,_::_,[],_,_,h,_,_=>h.elim
theorem qj(hi:sY w mo n ds ds' cs)(h:eW (aN n) ds'=some e)(j:gP (DW N vs) e x):XB w mo n cs x:=by
 unfold eW at h;cases he:bF (aN n) ds' with
 |none=>rw[he] at h;cases h
 |some es=>
  rw[he] at h
  match es,h with
  |[],h=>cases h
  |[a],h=>
   cases h;have:=jL ih hi he (xs:=[x]) (by simp only[eF];exact⟨j,trivial⟩);cases this with
   |cons _ c cs _ _ h1 h2=>cases h2;exact .one _ _ _ h1
  |a::b::r,h=>
   have h:some (E.seq (a::b::r))=some e:=h;cases h;obtain⟨xs,rfl,j⟩:=LN j;obtain⟨p,q,rfl,_,l⟩:=jm j;obtain⟨u,v,rfl,_,_⟩:=jm l;have:=jL ih hi he j;cases this with
   |cons _ c cs _ _ h1 h2=>
    cases h2 with
    |cons _ c2 cs _ _ h2 h3=>exact .seq _ _ _ _ _ _ _ h1 h2 h3
end
theorem sY.un{w:aa}{d:D}(h:sY w mo n (d::ds) l' cs):∃d' ds' c b,l'=d'::ds'/\cs=c::b/\It w mo n d d' c/\sY w mo n ds ds' b:=by
 match l',cs,h with
 |d'::ds',c::b,h=>exact⟨d',ds',c,b,rfl,rfl,h.1,h.2⟩
 |[],_,h=>exact h.elim
 |_::_,[],h=>exact h.elim
theorem sY.Px{w:aa}{l:List D}(h:sY w mo n l (d'::ds') cs):∃d ds c b,l=d::ds/\cs=c::b/\It w mo n d d' c/\sY w mo n ds ds' b:=by
 match l,cs,h with
 |d::ds,c::b,h=>exact⟨d,ds,c,b,rfl,rfl,h.1,h.2⟩
 |[],[],h=>exact h.elim
 |[],_::_,h=>exact h.elim
 |_::_,[],h=>exact h.elim
theorem sY.Qn{w:aa}{l:List D}(h:sY w mo n l [] cs):l=[]/\cs=[]:=by
 match l,cs,h with
 |[],[],_=>exact⟨rfl,rfl⟩
 |[],_::_,h=>exact h.elim
 |_::_,_,h=>exact h.elim
theorem xe{f:D->Option E}(h:eH f nd ds=some e):bn [] nd=true/\∃a,eW f ds=some a/\e=.lambda [] (nd.map bS) a:=by
 unfold eH at h;split at h
 .rename_i b
  cases hb:eW f ds with
  |none=>rw[hb] at h;cases h
  |some a=>rw[hb] at h;cases h;exact⟨b,a,rfl,rfl⟩
 .cases h
theorem MC{w:aa}{mo:Nat->Option Nat}{n:Nat}{d:D}{l':List D}{cs:List Vc}(b:tK (d::ds)):cI d=false/\aX d=false:=by
 obtain⟨q,e⟩:=CH b;cases e;exact⟨rfl,rfl⟩
section
variable {w:aa} {mo:Nat->Option Nat} {K N:Nat} {vs:List V} {n:Nat} (ih:∀(d d':D) (c:Vc) (e:E) (x:X),It w mo n d d' c->aN n d'=some e->gP (DW N vs) e x->XX w mo n c x)
include ih
theorem yp{m:Nat}(T:n=m+1):∀{Q j:List D} {cbs:List Vc} {s:List au} {es:List E} {xs:List X},sY w mo m Q j cbs->j.all nK=true->bn s (j.map jF)=true->bF (aN n) (j.map jG)=some es->eF (DW N vs) es xs->∃u,XD w cbs ((j.map jF).map bS) u/\XL w mo n u xs
 |[],[],[],s,es,xs,_,_,_,h,I=>by cases h;rw[yQ I];exact⟨[],.nil,.nil _⟩
 |b::Q,b'::j,cb::cbs,s,es,xs,hi,hb,C,h,I=>by
  simp only[R7,rr] at hb;simp only[v6,bn,rr] at C;simp only[v6,bF] at h;split at h
  .rename_i e he
   split at h
   .rename_i r hr
    cases h;obtain⟨x,h0,rfl,J,O⟩:=jm I;obtain⟨u,k1,k2⟩:=yp T hi.2 hb.2 C.2 hr O;have l:=hb.1;unfold nK at l;simp only[rr,PN] at l;obtain⟨m2,F,U,e2,_,_,p⟩:=hi.1.QB l.1;subst U;subst e2;have G:F.length=2:=by rw[<-p.len];exact l.2
    obtain⟨v,A,rfl⟩:∃v A,F=[v,A]:=by
     match F,G with
     |[v,A],_=>exact⟨v,A,rfl⟩
    have H:cI v=true:=by
     have h1:=C.1.1;unfold jF at h1;rw[(p.getD (num 0) 0).facts.1] at h1;exact h1
    obtain⟨l',cs,rfl,V,W,_⟩:=hi.1.list (λhq=>by have:=(MC (w:=w) (mo:=mo) (n:=n) (l':=[]) (cs:=[]) hq).1;rw[H] at this;cases this);obtain⟨x',r1,cx,ct,rfl,rfl,i1,i2⟩:=W.un;obtain⟨a',r2,S,ct2,rfl,rfl,i3,q⟩:=i2.un;obtain⟨g,y,rfl,p1,h,z,rfl,p2,P⟩:=V
    match r2,ct2,q with
    |[],[],_=>
     have P:z=cQ 4 0:=P;subst P;obtain⟨t,_,ht,rfl⟩:=i1.var (by have:=C.1.1;exact this);have Z:=ih _ _ _ _ _ (T▸i3.up.up) he J;exact⟨S::u,by rw[v6,v6];exact(show bS (jF (.agg [x',a']))=t from ht)▸.cons g h cbs t _ S u p1 p2 k1,.cons _ _ _ _ _ Z k2⟩
    |[],_::_,q=>exact q.elim
    |_::_,_,q=>exact q.elim
   .cases h
  .cases h
 |[],[],_::_,_,_,_,h,_,_,_,_=>h.elim
 |[],_::_,_,_,_,_,h,_,_,_,_=>h.elim
 |_::_,[],_,_,_,_,h,_,_,_,_=>h.elim
 |_::_,_::_,[],_,_,_,h,_,_,_,_=>h.elim
theorem Qw{l:List D}(G:sY w mo n l l' cs)(hq:¬tK l)(h:aN (n+1) (.agg l')=some e)(O:gP (DW N vs) e x):XI w mo n cs x:=by
 have hA:=G.NM.1;have key:∀{k:au},aO l'=k->k≠[]->∃t C v,l=.lit (.string k)::t/\l'=.lit (.string k)::C/\cs=dy k::v/\sY w mo n t C v:=λ{k} A V=>by
  rw[hA.head] at A;obtain⟨t,rfl⟩:=L4 A V;obtain⟨d',C,c,v,rfl,rfl,H,E⟩:=G.un;obtain⟨rfl,rfl,_⟩:=H.sym;exact⟨t,C,v,rfl,rfl,rfl,E⟩
 simp only[aN] at h;split at h
 .rename_i F
  obtain⟨t,C,v,rfl,rfl,rfl,E⟩:=key F (by decide);simp only[K2] at h
  match C,h with
  |[q'],h=>
   refine absurd ⟨rfl,?_⟩ hq;have:=E.NM.1.len;simp at this ⊢;omega
  |[],h=>cases h
  |_::_::_,h=>cases h
 split at h
 .rename_i F
  obtain⟨t,C,v,rfl,rfl,rfl,E⟩:=key F (by decide);simp only[K2] at h;cases A:bF (aN n) C with
  |none=>rw[A] at h;cases h
  |some ks=>
   rw[A] at h
   match ks,h with
   |[a,b],h=>
    cases h;obtain⟨p,q,r,rfl,h1,h2,h3⟩:=DE O;rw[yP h3];have:=jL ih E A (xs:=[p,q]) (by simp only[eF];exact⟨h1,h2,trivial⟩);cases this with
    |cons _ c1 _ _ _ x1 j=>cases j with
     |cons _ c2 _ _ _ x2 j=>cases j;exact .if3 _ _ _ _ _ x1 x2
   |[a,b,c],h=>
    cases h;obtain⟨p,q,r,rfl,h1,h2,h3⟩:=DE O;have:=jL ih E A (xs:=[p,q,r]) (by simp only[eF];exact⟨h1,h2,h3,trivial⟩);cases this with
    |cons _ c1 _ _ _ x1 j=>cases j with
     |cons _ c2 _ _ _ x2 j=>cases j with
      |cons _ c3 _ _ _ x3 j=>cases j;exact .if4 _ _ _ _ _ _ _ x1 x2 x3
   |[],h=>cases h
   |[_],h=>cases h
   |_::_::_::_::_,h=>cases h
 split at h
 .rename_i F
  obtain⟨t,C,v,rfl,rfl,rfl,E⟩:=key F (by decide);simp only[K2] at h
  match C,h with
  |[x',a'],h=>
   simp only[zV] at h;split at h
   .rename_i P
    cases ha:aN n a' with
    |none=>rw[ha] at h;cases h
    |some k=>
     rw[ha] at h;cases h;obtain⟨p,rfl,hp⟩:=LP O;obtain⟨x0,t,cx,v,rfl,rfl,S,U⟩:=E.Px;obtain⟨a0,t,ca,v,rfl,rfl,j3,j4⟩:=U.Px;obtain⟨rfl,rfl⟩:=j4.Qn;obtain⟨s,_,hs,rfl⟩:=S.var P;rw[hs];exact .set _ _ _ _ (ih _ _ _ _ _ j3 ha hp)
   .cases h
  |[],h=>cases h
  |[_],h=>cases h
  |_::_::_::_,h=>cases h
 split at h
 .rename_i F
  obtain⟨t,C,v,rfl,rfl,rfl,E⟩:=key F (by decide);simp only[K2] at h
  match C,h with
  |q'::ds',h=>
   simp only[wI] at h;split at h
   .rename_i T
    obtain⟨P,a,hb,rfl⟩:=xe h;obtain⟨p,rfl,hp⟩:=jM O;obtain⟨q,t,cq,v,rfl,rfl,S,U⟩:=E.Px;obtain⟨n1,n2⟩:=S.names T P;exact .lambda _ _ _ _ _ n1 n2 (qj ih U hb hp)
   .cases h
  |[],h=>cases h
 split at h
 .rename_i F
  obtain⟨t,C,v,rfl,rfl,rfl,E⟩:=key F (by decide);exact .begin _ _ _ (qj ih E h O)
 split at h
 .rename_i F
  obtain⟨t,C,v,rfl,rfl,rfl,E⟩:=key F (by decide);simp only[K2] at h
  match C,h with
  |q'::ds',h=>
   obtain⟨q,t,cq,v,rfl,rfl,S,U⟩:=E.Px;simp only[tu] at h;split at h
   .rename_i T
    obtain⟨m,il,rfl,rfl,hc,J,I⟩:=S.QB T;unfold yH at h;split at h
    .rename_i x' hj hd
     rw[hd] at I;split at h
     .rename_i P
      cases hp:eH (aN (m+1)) hj ds' with
      |none=>rw[hp] at h;cases h
      |some k=>
       rw[hp] at h;cases h;obtain⟨Q,a,hb,rfl⟩:=xe hp;obtain⟨p,rfl,W⟩:=Il O;obtain⟨u,rfl,X⟩:=jM W;cases I with
       |cons h1 h2=>
        rename_i x0 r0
        obtain⟨g,c1,c2,rfl,k1,_,k3,k4⟩:=iu hc;rw[h1.facts.1] at P;rw[h1.facts.2.1,oy h2];rw[h2.vars] at Q;cases x0 with
        |lit z=>
         cases z with
         |string s=>
          cases m with
          |zero=>exact k3.elim
          |succ m=>
           have k3:some (az 3 0 ⟨s.toArray⟩ none)=some c1.c:=k3;have e:c1=dy s:=Vc.inj (pb k3).symm;subst e;exact .defp _ g s c2 _ _ _ k1 (rZ _ _ _ k4 Q) (by simp at J ⊢;omega) (qj ih U hb X)
         |_=>cases P
        |_=>cases P
     .cases h
    .cases h
   .match ds',h with
    |[a'],h=>
     simp only[zV] at h;split at h
     .rename_i P
      cases ha:aN n a' with
      |none=>rw[ha] at h;cases h
      |some k=>
       rw[ha] at h;cases h;obtain⟨p,rfl,hp⟩:=Il O;obtain⟨a0,t,ca,v,rfl,rfl,j3,j4⟩:=U.Px;obtain⟨rfl,rfl⟩:=j4.Qn;obtain⟨s,_,hs,rfl⟩:=S.var P;rw[hs];exact .defv _ _ _ _ (ih _ _ _ _ _ j3 ha hp)
     .cases h
    |[],h=>cases h
    |_::_::_,h=>cases h
  |[],h=>cases h
 split at h
 .rename_i F
  obtain⟨t,C,v,rfl,rfl,rfl,E⟩:=key F (by decide);simp only[K2] at h
  match C,h with
  |q'::ds',h=>
   obtain⟨q,t,cq,v,rfl,rfl,S,U⟩:=E.Px;simp only[rV] at h;split at h
   .rename_i T
    simp only[rr] at T;split at h
    .rename_i p es hp he
     cases h;obtain⟨Q,a,hb,rfl⟩:=xe hp;obtain⟨xs,rfl,hf⟩:=um O;obtain⟨x1,xs,rfl,hg,W⟩:=jm hf;obtain⟨u,rfl,X⟩:=jM hg;obtain⟨m,bl,hn,rfl,_,J,I⟩:=S.QB T.1;subst hn;obtain⟨ho,cbs,rfl,hC,h8,_⟩:=S.list (λhq=>by
      obtain⟨q,rfl⟩:=CH hq;have h0:=T.2
      generalize aE q'=il at I h0
      cases I with
      |cons h1 h2=>
       rw[h1.facts.2.2.2.2 _ rfl] at h0;simp[nK,aX] at h0)
     obtain⟨us,k1,k2⟩:=yp ih rfl h8 T.2 Q he W;exact .lets _ _ _ _ _ _ _ _ hC k1 (by rw[h8.NM.2];exact J) (qj ih U hb X) k2
    .cases h
   .cases h
  |[],h=>cases h
 split at h
 .cases h
 .rename_i h1 h2 h3 h4 h5 h6 h7 V
  cases A:bF (aN n) l' with
  |none=>rw[A] at h;cases h
  |some ks=>
   rw[A] at h;cases h;obtain⟨xs,rfl,O⟩:=um O;have h9:=jL ih G A O;cases h9 with
   |nil=>
    obtain⟨_,rfl⟩:True/\l'=[]:=⟨trivial,by
     match l',l,G with
     |[],_,_=>rfl
     |_::_,_::_,h=>exact h.elim
     |_::_,[],h=>exact h.elim⟩
    exact absurd rfl V
   |cons _ c cs x xs x1 x2=>
    refine .app _ _ _ _ _ ?_ x1 x2;obtain⟨Z,r0,H⟩:∃Z r0,l=Z::r0/\∃d',It w mo n Z d' c:=by
     match l,l',G with
     |Z::r0,d'::_,G=>exact⟨Z,r0,rfl,d',G.1⟩
     |[],[],G=>exact G.elim
     |[],_::_,G=>exact G.elim
     |_::_,[],G=>exact G.elim
    obtain⟨rfl,d',H⟩:=H;rw[hA.head] at h1 h2 h3 h4 h5 h6 h7;cases n with
    |zero=>obtain⟨y,_,hi,_⟩:=H;exact hi.elim
    |succ n=>
    cases Z with
    |lit t=>
     cases t with
     |string s=>
      obtain⟨_,rfl,_⟩:=H.sym;refine .inr ?_;cases A:l7 s with
      |false=>simp only[dy];exact A
      |true=>
       have F:aO (.lit (.string s)::r0)=s:=by simp only[aO,A,Ty]
       rw[F] at h1 h2 h3 h4 h5 h6 h7;have hm:s∈OS:=by unfold l7 at A;rw[Su] at A;exact A
       simp only[OS,RD,List.not_mem_nil,or_false] at hm;rcases hm with e|e|e|e|e|e|e
       .exact absurd e h1
       .exact absurd e h2
       .exact absurd e h6
       .exact absurd e h3
       .exact absurd e h4
       .exact absurd e h5
       .exact absurd e h7
     |int k m=>
      obtain⟨y,_,hi,j,_⟩:=H;cases k<;>first|(cases hi;done)|skip
      have j:some (az 1 m aZ none)=some c.c:=j;have e:c=cQ 1 m:=Vc.inj (pb j).symm;rw[e];exact .inl (show(1:Int)≠3 by decide)
     |bool b=>
      obtain⟨y,_,hi,j,_⟩:=H;have j:some (az 2 (if b then 1 else 0) aZ none)=some c.c:=j;have e:c=cQ 2 (if b then 1 else 0):=Vc.inj (pb j).symm;rw[e];exact .inl (show(2:Int)≠3 by decide)
     |_=>obtain⟨y,_,hi,_⟩:=H;cases hi
    |agg il=>
     obtain⟨y,_,hi,j,_⟩:=H;cases il with
     |nil=>have e:c=cQ 4 0:=Vc.inj j.2;rw[e];exact .inl (show(4:Int)≠3 by decide)
     |cons a r=>obtain⟨g,_,_,e,_⟩:=iu j.2;rw[e];exact .inl (show(5:Int)≠3 by decide)
    |slice l a=>obtain⟨y,_,hi,j,_⟩:=H;cases j
    |_=>obtain⟨y,_,hi,_⟩:=H;cases hi
end
theorem Ci(y:al)(t:Lit):I4 y (.lit t)=.lit t:=by
 unfold I4;split<;>simp_all
theorem N1{w:aa}{mo:Nat->Option Nat}{K N:Nat}{vs:List V}(I:∀v∈vs,∃y,VX w (jj K) v y):∀(n:Nat) (d d':D) (c:Vc) (e:E) (x:X),It w mo n d d' c->aN n d'=some e->gP (DW N vs) e x->XX w mo n c x
 |0,_,_,_,_,_,⟨_,_,h,_⟩,_,_=>h.elim
 |n+1,d,d',c,e,x,p,j,H=>by
  cases d with
  |lit t=>
   cases t with
   |string s=>
    obtain⟨rfl,rfl,hs⟩:=p.sym;simp only[aN] at j;split at j
    .cases j
    .cases j;rw[LQ H];exact .sym _ _ hs
   |int k m=>
    obtain⟨y,h1,h2,h3,C,_⟩:=p;have h1:d'=.lit (.int k m):=h1;subst h1;have j:some (E.const (.lit (.int k m)))=some e:=j;cases j;obtain⟨v,rfl,A⟩:=n5 H;have G:=qW I h2 h3 C (by rw[Ci];exact A);cases k<;>first|(cases h2;done)|skip
    have h3:some (az 1 m aZ none)=some c.c:=h3;have e:c=cQ 1 m:=Vc.inj (pb h3).symm;exact .lit _ _ _ G (.inl (by rw[e];rfl))
   |bool b=>
    obtain⟨y,h1,h2,h3,C,_⟩:=p;have h1:d'=.lit (.bool b):=h1;subst h1;have j:some (E.const (.lit (.bool b)))=some e:=j;cases j;obtain⟨v,rfl,A⟩:=n5 H;have G:=qW I h2 h3 C (by rw[Ci];exact A);have h3:some (az 2 (if b then 1 else 0) aZ none)=some c.c:=h3;have e:c=cQ 2 (if b then 1 else 0):=Vc.inj (pb h3).symm;exact .lit _ _ _ G (.inr (by rw[e];rfl))
   |_=>obtain⟨y,_,hi,_⟩:=p;cases hi
  |agg l=>
   by_cases J:tK l
   .obtain⟨q,rfl⟩:=CH J;obtain⟨y,⟨l',rfl,h1⟩,h2,h3,C,_⟩:=p;simp only[fN J] at h1;obtain⟨b,x1,x2,d1,r1,S,e2,rfl,T,b2,x3,x4,Z,r2,e5,U,rfl,e8,e9,rfl⟩:=h1;obtain⟨g,c1,c2,rfl,k1,k2,k3,k4⟩:=iu h3.2;obtain⟨g2,c3,W,rfl,k5,k6,k7,Q⟩:=iu k4;obtain⟨f,y1,y2,f1,f2,f3,f4⟩:=h2.2;obtain⟨rfl,rfl,rfl⟩:=lG.qm ⟨S,e2⟩ ⟨f1,f2⟩;obtain⟨f5,y3,y4,f6,f7,f8,f9⟩:=f4;obtain⟨rfl,rfl,rfl⟩:=lG.qm ⟨e5,U⟩ ⟨f6,f7⟩;obtain⟨_,_,m1⟩:=C.parts ⟨S,e2⟩ k2;obtain⟨_,m2,_⟩:=m1.parts ⟨e5,U⟩ k6;rw[Ci] at T;subst T;have j:some (E.const Z)=some e:=j;cases j;obtain⟨v,rfl,A⟩:=n5 H;rw[e8] at A;cases n with
    |zero=>exact f3.elim
    |succ n=>
     have k3:some (az 3 0 ⟨kL.toArray⟩ none)=some c1.c:=k3;have ec:c1=dy kL:=Vc.inj (pb k3).symm;subst ec;have Q:W=cQ 4 0:=Vc.inj Q;subst Q;exact .form _ g [dy kL,c3] _ ⟨g,_,rfl,k1,g2,_,rfl,k5,rfl⟩ (by simp) (.quote _ _ _ (qW I f8 k7 m2 A))
   .obtain⟨l',cs,rfl,hC,u,F⟩:=p.list J;have P:=Qw (N1 I n) u J j H;have O:cs.length<=1000:=by rw[u.NM.2];exact F
    cases cs with
    |nil=>
     have:=u.NM;have h0:l'=[]:=by have h1:=this.1.len;have h2:=this.2;simp at h2;rw[<-h2] at h1;exact ze.1 h1
     rw[h0] at j;simp[aN,aO] at j
    |cons c0 cs=>
     obtain⟨g,y,rfl,k1,k2⟩:=hC;exact .form _ g (c0::cs) _ ⟨g,y,rfl,k1,k2⟩ O P
  |slice l a=>obtain⟨y,_,hi,G,_⟩:=p;cases G
  |_=>obtain⟨y,_,hi,_⟩:=p;cases hi
end Go.Proofs.YtlobegpjenabaaaGreatDoor
