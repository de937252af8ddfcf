import Derived.Test.YtlobegpjenabaaaGreatDoorT26
import Derived.Test.YtlobegpjenabaaaGreatDoorT28
namespace Go.Proofs.YtlobegpjenabaaaGreatDoor
open Go.RowKit Tryz
set_option linter.unusedSimpArgs false
set_option linter.unusedVariables false
set_option maxRecDepth 100000
set_option maxHeartbeats 4000000
section
variable {z:BS} {vs:List V} {B M n n' made K j:Nat} {wr w':aa} {Y Y':a9} {ow ow' mo mf o1 o1' o2:Nat->Option Nat} {fx es:List X} {x:XS} {α:Type} {m:Rm} {e:X} {cs:List Vc}
def RM(B:Nat)(w:aa)(Y:a9)(ow:Nat->Option Nat)(M:Nat)(fx:List X)(c:Nat):jc->Prop
 |.run x=>∃n,n<=40/\KW B w Y ow M fx x n c
 |.err e d o=>A8 B w Y ow M 2 e d [] o c
 |.done t o=>A8 B w Y ow M 1 0 0 t o c
def KY(z:BS)(vs:List V)(B:Nat)(w:aa)(Y:a9)(ow:Nat->Option Nat)(M:Nat)(fx:List X)(n:Nat)(r:Nat×jc)(k:Nat)(wr:aa):Prop:=∃a ow',Gw Y ow w a ow' wr/\((∃x b made K,K *64+b<=k/\b<=40/\GX z vs x/\KW B wr a ow' M fx x b made/\made<=n/\wC K x n made=some r)\/((∀x,r.2≠.run x)/\RM B wr a ow' M fx r.1 r.2))
theorem qv{w:aa}{r:Nat×jc}(E:n'<=40)(D:Gw Y ow w Y' ow' wr)(v:GX z vs x)(A:made<=n)(a:wC K x n made=some r)(p:¬(x.md.isApp=true/\made=n))(C:lf B wr Y' ow' M fx x n' made w'):∃k,k<K *64+n'/\KY z vs B w Y ow M fx n r k w':=by
 obtain⟨i,ow2,y,C⟩:=C;have c:=D.trans y;have b:made+x.md.cost<=n:=by
  unfold XM.cost;split
  .rename_i h;have:made≠n:=λe=>p ⟨h,e⟩;omega
  .omega
 cases K with
 |zero=>cases a
 |succ K=>
  have step:wC (K+1) x n made=match dG x with
   |.ok u=>wC K u n (made+x.md.cost)
   |.err e d o=>some (made+x.md.cost,.err e d o)
   |.done t o=>some (made+x.md.cost,.done t o)
   |.bad=>none:=by rw[wC,fb p];cases dG x<;>rfl
  rcases C with⟨g,h1,_,h3⟩|⟨u,g,h1,h2,h3⟩|⟨e,d,o,h1,h2⟩
  .exact⟨(K+1) *64+g,by omega,i,ow2,c,.inl ⟨x,g,made,K+1,ew _,by omega,v,h3,A,a⟩⟩
  .rw[step] at a;rcases h2 with h2|⟨x1,q,l,s⟩
   .rw[h2] at a;exact⟨K *64+g,by omega,i,ow2,c,.inl ⟨u,g,_,K,ew _,h1,v.step h2,h3,b,a⟩⟩
   .rw[q] at a;cases K with
    |zero=>cases a
    |succ K=>
     have f:x1.md.cost=0:=by unfold XM.cost;rw[l];rfl
     simp only[wC,l,s,f] at a;exact⟨K *64+g,by omega,i,ow2,c,.inl ⟨u,g,_,K,ew _,h1,(v.step q).step s,h3,b,by simpa using a⟩⟩
  .rw[step] at a;rcases h1 with h1|⟨x1,q,l,s⟩
   .rw[h1] at a;cases a;exact⟨0,by omega,i,ow2,c,.inr ⟨(λx e=>by cases e),h2⟩⟩
   .rw[q] at a;cases K with
    |zero=>cases a
    |succ K=>
     have f:x1.md.cost=0:=by unfold XM.cost;rw[l];rfl
     simp only[wC,l,s,f] at a;have a:some (made+x.md.cost,jc.err e d o)=some r:=by simpa using a
     cases a;exact⟨0,by omega,i,ow2,c,.inr ⟨(λx e=>by cases e),h2⟩⟩
theorem XL.get{w:aa}{d:Nat}:∀{cs:List Vc} {xs:List X} {j:Nat} {c:Vc} {x:X},XL w mo d cs xs->cs[j]? =some c->xs[j]? =some x->XX w mo d c x
 |_,_,0,_,_,.cons _ _ _ _ _ h _,h1,h2=>by cases h1;cases h2;exact h
 |_,_,j+1,_,_,.cons _ _ _ _ _ _ h,h1,h2=>XL.get (j:=j) h h1 h2
 |_,_,_,_,_,.nil _,h1,_=>by simp at h1
theorem If{l:List α}{e:α}{es:List α}(h:l.drop j=e::es):l[j]? =some e/\es=l.drop (j+1):=⟨by
 have:(l.drop j)[0]? =some e:=by rw[h];rfl
 simpa using this,by rw[<-SV,h];rfl⟩
theorem Qp{w:aa}(h:RC B w Y ow mo mf M fx m x)(s:aI w M m)(f:x.md=.next)(l:x.ch=[])(C:m.form=j)(p:x.fs=fx.drop j)(t:fx.drop j=e::es){d:Nat}(b:d<=40)(i:XL w mo d cs fx){c:Vc}(A:cs[j]? =some c)(g:aI w' M {m with mode:=1,v:=c,fr:=m.gl})(u:aB (λk=>k=M) w w')(r:m.made=(made:Int)):lf B w Y ow M fx x n made w':=by
 obtain⟨a,o⟩:=If t;have y:=i.get A a;have q:=cy a;refine h.arm s u _ g {x with md:=.ev e,fr:=0,ch:=[],fs:=es} d b (.inl (by unfold dG;rw[f];simp only;rw[p,t])) ⟨rfl,rfl,h.st.1,h.st.2⟩ rfl ⟨rfl,rfl,rfl⟩ (by rw[f];exact r) ?_ h.la ⟨rfl,b,y.ak (h.kr s u) (TV _),h.gl,j,C,q,?_⟩
 .have:=h.ch;rw[l] at this;exact this
 .exact o
def KZ(B:Nat)(w:aa)(Y:a9)(ow:Nat->Option Nat)(M:Nat)(fx:List X)(r:Nat×jc)(e:bo)(w':aa):Prop:=e=.returned (.tuple #[Jn (r.1:Nat),Jn 0])/\∃a ow',RM B w' a ow' M fx r.1 r.2/\Gw Y ow w a ow' w'
theorem aI.cells{w:aa}(h:aI w M m):Cl w M 0 (.slice m.fo.a m.fo.n m.fo.c)/\Cl w M 1 (Jn m.form)/\Cl w M 2 (Jn m.st)/\Cl w M 4 (Jn m.mode)/\Cl w M 13 (Jn m.made)/\Cl w M 14 (.pointer m.gl):=⟨h.cell 0,h.cell 1,h.cell 2,h.cell 4,h.cell 13,h.cell 14⟩
set_option maxHeartbeats 8000000 in
theorem FSa{w:aa}(m:Rm)(u:aI w M m)(n:Nat)(hn:n<=100000)(r:Nat×jc)(h0:∃k,KY z vs B w Y ow M fx n r k (w.setCell (dq M 13) (Jn 0))):cl 72 #[Pt M,Jn n] w (KZ B w Y ow M fx r):=by
 have k13:=kd u 13 (Jn m.made);have hf:=u.fz;have HS:=ag h0;have hH:(n:Int)<=100000:=by omega
 clear h0 u;go_enter func72,ntmps72;go_wp2;clear hf k13
 go_loopw [] (λwr=>∃k,KY z vs B w Y ow M fx n r k wr) (λwr=>kN (λk=>KY z vs B w Y ow M fx n r k wr))
 case atStart=>exact HS.out
 case round=>
  clear HS;obtain⟨h4,ha⟩:=iN hrel;obtain⟨k0,G⟩:∃k0,kN (λk=>KY z vs B w Y ow M fx n r k wr)=k0:=⟨_,rfl⟩;rw[G] at h4;have J:=ag G;clear hrel ha G;obtain⟨Y',ow',O,h7⟩:=h4;have next:∀(w':aa),(∃k,k<k0/\KY z vs B w Y ow M fx n r k w')->(∃k,KY z vs B w Y ow M fx n r k w')/\kN (λk=>KY z vs B w Y ow M fx n r k w')<k0:=λw' ⟨k,h1,h2⟩=>⟨⟨k,h2⟩,RI ((iN ⟨k,h2⟩).2 k h2) h1⟩;have HN:=ag next;clear next;rcases h7 with⟨x,n',made,K,hk,C,P,⟨mo,mf,A,u,b,D,i⟩,F,g⟩|⟨hr,T⟩
  .obtain⟨c0,c1,c2,c4,c13,c14⟩:=u.cells;rw[b.st.1] at c2;rw[i] at c13;have hf:=u.fz;have hq:=u.lt;have H:=ag (ei O (ei P (ei u (ei b (ei g i)))));have I:=ag (ei hk (ei C F));cases hx:x.md with
   |next=>
    rw[hx] at D;obtain⟨l,W,j,hj,hi,Z⟩:=D;rw[l] at c4;rw[hj] at c1;obtain⟨d,cs,hs,R,he,U⟩:=b.fo;have h9:=U.length;have X:A.fo.n=fx.length:=R.1.trans h9;rw[X] at c0;by_cases hv:j=fx.length
    .subst hv;have hD:(fx.length:Int)<=(fx.length:Int):=Tc _;have HF:Hid (KY z vs B w Y ow M fx n r 0 (wr.drew.setCell (dq M 2) (Jn 1))):=by
      have hu:aB (λk=>k=M) wr (wr.drew.setCell (dq M 2) (Jn 1)):=(TU _ _).drew.aY;have S:aI (wr.drew.setCell (dq M 2) (Jn 1)) M {A with st:=1}:=aI.set (w:=wr.drew) u 2 _ _ rfl;obtain⟨hw,ht⟩:=b.mk2.M3 hu ⟨_,S⟩;cases K with
      |zero=>cases g
      |succ K=>
       rw[wC,fb (by rw[hx];rintro⟨h,_⟩;cases h)] at g;unfold dG at g;rw[hx] at g;simp only at g;rw[Z,RK] at g;simp only at g;cases g;refine⟨Y',ow',O.trans ht,.inr ⟨(λx e=>by cases e),_,S,hw,ku b.hB hu.size,rfl,b.st.2,.inl ⟨?_,rfl⟩,b.Ji u hu,λ_=> ?_,i⟩⟩
       .have:=b.ch;rw[W] at this;exact this
       .refine b.la.trans ?_;cases x.last<;>rfl
     have G:0<k0:=by
      cases K with
      |zero=>cases g
      |succ K=>omega
     clear O P u b g i hk C F hx l W hj hi Z R he U h9 X;go_wp2;go_region;go_wp2;go_roundw
     case rel=>exact(HN.out _ ⟨0,G,HF.out⟩).1
     case measure=>rw[J.out];exact(HN.out _ ⟨0,G,HF.out⟩).2
    .have hl:j<fx.length:=by omega
     have hlt:(j:Int)<(fx.length:Int):=by omega
     have hF:(0:Int)<=(j:Int):=by omega
     obtain⟨c,hc⟩:∃c,cs[j]? =some c:=⟨_,fA (by omega)⟩;obtain⟨gl,ol,h8,hA,hz,E⟩:=cT R (b.yM u) hc;obtain⟨l0,l1,l2,l3,l4⟩:=E wr (TU _ _);rw[h8] at c0;obtain⟨e,es,hd⟩:∃e es,fx.drop j=e::es:=⟨_,_,K1 hl⟩;have HI:=ag (ij wr.drew.drew M A c A.gl u);have HF:=ag λw' S hu=>Qp (n:=n') b u hx W hj Z hd hs U hc (w':=w') S hu i;have hp:=ag E;have h5:=ag (ei h8 (ei X hj));have HX:=ag hx;have hy:fx.length<=1000:=by omega
     have hE:((j:Nat):Int)<((fx.length:Nat):Int):=hlt;clear O P u b g i hk C F hx l W hj hi Z R he U h9 X hd hc h8 E;go_wp2;go_region;go_wp2;go_region_held3 (λwx=>Cl wx M 0 (.slice (some (dq gl ol)) fx.length A.fo.c)/\Cl wx M 1 (Jn j)/\Cl wx M 14 (.pointer A.gl)/\Cl wx gl (ol+j *5) (Jn c.k)/\Cl wx gl (ol+j *5+1) (Jn c.n)/\Cl wx gl (ol+j *5+2) (.string c.s)/\Cl wx gl (ol+j *5+3) (.pointer c.p)/\Cl wx gl (ol+j *5+4) (.pointer c.f)) (first|(exact⟨c0,c1,c14,l0,l1,l2,l3,l4⟩)|go_keep) (first|(go_at_call 110;refine HI.out.mono ?_;rintro e w9 ⟨rfl,N,h6⟩;obtain⟨l0,l1,l2,l3,l4⟩:=hp.out w9 ((TU _ _).drew.drew.trans h6 (λ_ _ h=>h));have c0:Cl w9 M 0 (.slice (some (dq gl ol)) fx.length A.fo.c):=(by rw[<-h5.out.1,<-h5.out.2.1];exact N.cell 0);have c1:Cl w9 M 1 (Jn j):=(by rw[<-h5.out.2.2];exact N.cell 1);have c14:Cl w9 M 14 (.pointer A.gl):=N.cell 14;have hb:=ag (ei N h6);clear N h6))
     all_goals
      have L:=ag (HN.out _ ((qv I.out.2.1 H.out.1 H.out.2.1 I.out.2.2 H.out.2.2.2.2.1 (by rw[HX.out];rintro⟨h,_⟩;cases h) (HF.out _ hb.out.1 ((TU _ _).drew.drew.trans hb.out.2 (λ_ _ h=>h)))).imp λk h=>⟨gr h.1 I.out.1,h.2⟩));go_wp2;go_roundw
      case rel=>exact L.out.1
      case measure=>rw[J.out];exact L.out.2
   |ev e=>
    rw[hx] at D;obtain⟨l,_,Q,hh,y⟩:=D;rw[l] at c4;have HC:=ag (P8 b u P i hx C Q hh y);have HX:=ag hx;clear O P u b g i hk C F hx Q hh y l;go_wp2_with fail;refine HC.out.mono ?_;rintro e2 w' ⟨rfl,hR⟩;have L:=ag (HN.out _ ((qv I.out.2.1 H.out.1 H.out.2.1 I.out.2.2 H.out.2.2.2.2.1 (by rw[HX.out];rintro⟨h,_⟩;cases h) hR).imp λk h=>⟨gr h.1 I.out.1,h.2⟩));clear hR;go_wp2;go_roundw
    case rel=>exact L.out.1
    case measure=>rw[J.out];exact L.out.2
   |back v=>
    rw[hx] at D;obtain⟨l,Q,y⟩:=D;rw[l] at c4;have HC:=ag (Ls (n:=n') b u P i hx Q y);have HX:=ag hx;clear O P u b g i hk C F hx Q y l;go_wp2_with fail;refine HC.out.mono ?_;rintro e2 w' ⟨rfl,hR⟩;have L:=ag (HN.out _ ((qv I.out.2.1 H.out.1 H.out.2.1 I.out.2.2 H.out.2.2.2.2.1 (by rw[HX.out];rintro⟨h,_⟩;cases h) hR).imp λk h=>⟨gr h.1 I.out.1,h.2⟩));clear hR;go_wp2;go_roundw
    case rel=>exact L.out.1
    case measure=>rw[J.out];exact L.out.2
   |app p a=>
    rw[hx] at D;obtain⟨l,V,y,cs,R,Q⟩:=D;have HC:=ag (Ol (n:=n') b u P i (by omega) hx V y l R Q);rw[l] at c4;have HX:=ag hx;by_cases hm:made=n
    .subst hm;have HF:Hid (KZ B w Y ow M fx r (.returned (.tuple #[Jn (made:Nat),Jn 0])) wr):=by
      cases K with
      |zero=>cases g
      |succ K=>
       rw[wC,fN ⟨by rw[hx];rfl,rfl⟩] at g;cases g;exact⟨rfl,Y',ow',⟨n',C,mo,mf,A,u,b,by rw[hx];exact⟨l,V,y,cs,R,Q⟩,i⟩,O⟩
     clear O P u b g i hk C F hx V R Q y l;go_wp2;go_ret2;exact HF.out
    .have hC:¬((made:Int)=(n:Int)):=by omega
     clear O P u b g i hk C F hx V R Q y l;go_wp2_with fail;refine HC.out.mono ?_;rintro e2 w' ⟨rfl,hR⟩;have L:=ag (HN.out _ ((qv I.out.2.1 H.out.1 H.out.2.1 I.out.2.2 H.out.2.2.2.2.1 (λh=>hm h.2) hR).imp λk h=>⟨gr h.1 I.out.1,h.2⟩));clear hR;go_wp2;go_roundw
     case rel=>exact L.out.1
     case measure=>rw[J.out];exact L.out.2
  .obtain⟨c,q⟩:=r;obtain⟨A,u,ho,i⟩:∃A,aI wr M A/\(A.st=1\/A.st=2)/\A.made=(c:Int):=by
    cases q with
    |run x=>exact absurd rfl (hr x)
    |err e d o=>obtain⟨A,h1,_,_,h2,_,_,_,_,h3⟩:=T;exact⟨A,h1,.inr h2,h3⟩
    |done t o=>obtain⟨A,h1,_,_,h2,_,_,_,_,h3⟩:=T;exact⟨A,h1,.inl h2,h3⟩
   obtain⟨_,_,c2,_,c13,_⟩:=u.cells;rw[i] at c13;have hq:=u.lt;have hI:(A.st==0)=false:=by rcases ho with e|e<;>rw[e]<;>rfl
   have HF:Hid (KZ B w Y ow M fx (c,q) (.returned (.tuple #[Jn (c:Nat),Jn 0])) wr):=⟨rfl,Y',ow',T,O⟩;clear O hr T u ho i;go_wp2;go_ret2;exact HF.out
theorem Pr.ak{w:aa}(k:KR w w')(f:Gn w Y w' Y')(c:Int):∀{md:XM},Pr w Y mo mf fx m x n md->Pr w' Y' mo mf fx {m with made:=c} x n md
 |.next,h=>h
 |.ev e,⟨h1,h2,h3,b,d⟩=>⟨h1,h2,h3.ak k (TV _),b,d⟩
 |.back v,⟨h1,h2,h3⟩=>⟨h1,T5 k (TV _) _ _ h2,h3⟩
 |.app p a,⟨h1,h2,h3,cs,b,d⟩=>⟨h1,h2,h3,cs,b.ak f,fU.ak k (TV _) _ _ d⟩
theorem cL.kr{w:aa}{ch:a8}{d:Nat}(h:cL w ch d)(k:KR w w'):cL w' ch d:=by
 rcases h with h|⟨g,a,h1,h2,h3⟩
 .exact .inl h
 .exact .inr ⟨g,a,h1,k.chain _ _ h2,h3⟩
theorem RM.at{w:aa}{c:Nat}:∀{q:jc},RM B w Y ow M fx c q->∃m,aI w M m/\Mk B w Y ow M/\B<=w.heap.size
 |.run x,⟨_,_,_,_,m,h1,h2,_⟩=>⟨m,h1,h2.mk2,h2.hB⟩
 |.err _ _ _,⟨m,h1,h2,h3,_⟩=>⟨m,h1,h2,h3⟩
 |.done _ _,⟨m,h1,h2,h3,_⟩=>⟨m,h1,h2,h3⟩
theorem RM.other{w:aa}{c:Nat}{q:jc}(h:RM B w Y o2 M fx c q)(y:Gw Y o1 w Y' o1' w')(U:fq o1 o2)(h1:∀k t,o1 k=some t->Y k)(J:mu w' B Y'):RM B w' Y' o2 M fx c q:=by
 obtain⟨W,T,a,R⟩:=h.at;have C:∀k t,o2 k=some t->o1 k=none:=λk t l=>U.symm k (by rw[l];simp);have hS:∀k,o1 k≠none->Y k:=λk l=>by
  cases e:o1 k with
  |none=>exact absurd e l
  |some t=>exact h1 k t e
 have r:∀k t,o2 k=some t->w'.heap[k]? =w.heap[k]?:=λk t l=>y.upd.block k (a.lt (a.owx k t l)) (λe=>e (C k t l));have I:KI w w':=KI.aT (B:=B) (S:=λk=>o1 k≠none) (λk l=>a.xty k (hS k l)) y.upd;have s:=I.kr;have L:Gn w Y w' Y':=λb hb C=>⟨λG=>C (y.x2 b hb G),y.upd.block b hb (λG=>C (hS b G))⟩;have l:Mk B w' Y' o2 M:=⟨λk t l=>y.x1 k (a.lt (a.owx k t l)) (a.owx k t l) (C k t l),J,a.owM⟩;have N:∀{m},aI w M m->aI w' M m:=λh=>(r M 0 a.owM).trans h;have A:∀{u:al} {o:List au},lC w 0 o2 u o->lC w' 0 o2 u o:=λh=>h.ak λb c hb V=>⟨hb,by rw[r b 0 hb];exact V⟩;have v:∀{st er:Int} {d:Nat} {t:au} {o:List au},A8 B w Y o2 M st er d t o c->A8 B w' Y' o2 M st er d t o c:=λ⟨m,E,e2,e3,F,e5,O,P,Q⟩=>⟨m,N E,l,ku e3 y.upd.size,F,e5,O.kr s,A P,Q⟩;cases q with
 |err e d o=>exact v h
 |done t o=>exact v h
 |run x=>
  obtain⟨n,D,mo,mf,m,E,e2,e3,F⟩:=h;exact⟨n,D,mo,mf,m,N E,e2.go s L y.upd.size l (TV _) (TV _) m x ⟨rfl,rfl,e2.st.1,e2.st.2⟩ (λi f hi=>.inl ⟨hi,λb hb=>⟨hb,r b _ hb⟩⟩) (λi p _ hp=>.inl hp) (λ_ _=>rfl) (A e2.ou) (iU.ak s (TV _) (TV _) L _ _ e2.ch) e2.la (λi g H=>gr (e2.mlt i g H) y.upd.size) e2.mdm e2.inj e2.fdm,e3.ak s L m.made,F⟩
def K0(z:BS)(vs:List V)(n:Nat)(r:Nat×jc):jc->Prop
 |.run x=>GX z vs x/\∃K,wC K x n 0=some r
 |q=>r=(0,q)
theorem Nb{w:aa}{c:Nat}{q:jc}(h:RM B w Y ow M fx c q)(n:Nat)(J:n<=100000)(r:Nat×jc)(A:K0 z vs n r q):cl 72 #[Pt M,Jn n] w (KZ B w Y ow M fx r):=by
 obtain⟨m,s,I,hB⟩:=h.at;have l:aB (λk=>k=M) w (w.setCell (dq M 13) (Jn 0)):=(TU _ _).aY;have a:∀{m},aI w M m->aI (w.setCell (dq M 13) (Jn 0)) M {m with made:=0}:=λh=>h.set 13 _ _ rfl;obtain⟨y,v⟩:=I.M3 l ⟨_,a s⟩;have i:=Qj s l;refine FSa (z:=z) (vs:=vs) m s n J r ?_;have f:∀{st er:Int} {d:Nat} {t:au} {o:List au},A8 B w Y ow M st er d t o c->A8 B (w.setCell (dq M 13) (Jn 0)) Y ow M st er d t o 0:=λ⟨L,g,e2,e3,C,e5,D,E,F,_⟩=>⟨_,a g,y,ku e3 l.size,C,e5,D.kr i,E.ak λb c hb u=>⟨hb,by rw[l.block b (ai u) (mg s u (by decide))];exact u⟩,F,rfl⟩;cases q with
 |err e d o=>cases A;exact⟨0,Y,ow,v,.inr ⟨(λx e=>by cases e),f h⟩⟩
 |done t o=>cases A;exact⟨0,Y,ow,v,.inr ⟨(λx e=>by cases e),f h⟩⟩
 |run x=>
  obtain⟨G,K,H⟩:=A;obtain⟨n',p,mo,mf,m,g,e2,e3,C⟩:=h;obtain⟨h1,_⟩:=e2.M3 g l _ (a g) x ⟨rfl,rfl,e2.st.1,e2.st.2⟩ rfl ⟨rfl,rfl,rfl⟩ (iU.ak i (TV _) (TV _) (e2.sW g l) _ _ e2.ch) e2.la;exact⟨K *64+n',Y,ow,v,.inl ⟨x,n',0,K,ew _,p,G,⟨mo,mf,_,a g,h1,e3.ak i (e2.sW g l) 0,rfl⟩,kc _,H⟩⟩
theorem JR(w:aa)(M:Nat)(n:Int)(a:n<0\/100000<n):cl 72 #[Pt M,Jn n] w (bD (.tuple #[Jn 0,Jn 11]) w):=by
 rcases a with a|a
 .go_enter func72,ntmps72;go_wp2;go_ret2;exact⟨rfl,rfl⟩
 .have b:¬n<0:=by omega
  go_enter func72,ntmps72;go_wp2;go_ret2;exact⟨rfl,rfl⟩
def mY(c:Nat):jc->Int×Int×Nat×au
 |.run x=>(0,0,x.ch.length,[])
 |.err e d _=>(2,e,d,[])
 |.done t _=>(1,0,0,t)
theorem JP{w:aa}{c:Nat}{q:jc}(h:RM B w Y ow M fx c q):cl 73 #[Pt M] w (GM w (mY c q).1 (mY c q).2.1 (mY c q).2.2.1 ⟨(mY c q).2.2.2.toArray⟩):=by
 cases q with
 |run x=>
  obtain⟨n,g,mo,mf,m,a,e2,e3,b⟩:=h;have:=sC w M m _ a e2.ch.deep;rw[e2.st.1,e2.st.2] at this;exact this
 |err e d o=>
  obtain⟨m,a,_,_,b,e5,f,_⟩:=h;have:=sC w M m _ a f;rw[b,e5] at this;exact this
 |done t o=>
  obtain⟨m,a,_,_,b,e5,f,_,i,_⟩:=h;have:=sC w M m _ a f;rw[b,e5,fN rfl,i rfl] at this;exact this
end
section
variable {k g F gb cap vc B:Nat} {f:Fc} {w3 wr w7 wc:aa} {na va:a8} {y:ao} {u:Sl}
def AW(s:au):Vc:=⟨7,0,⟨s.toArray⟩,none,none⟩
def Ob(w:aa)(fo:Sl)(e:bo)(w':aa):Prop:=∃M F f,e=.returned (Pt M)/\w.heap.size<=M/\w.heap.size<=F/\aI w' M ⟨fo,0,0,0,0,cQ 0 0,none,none,ef,0,eb F,ef,⟨#[]⟩⟩/\sX w' w.heap.size F f aP (aP.map AW)/\f.up=none/\Below w.heap.size w w'
def Oc(w3:aa)(F:Nat)(k:Nat)(wr:aa):Prop:=∃f:Fc,sX wr w3.heap.size F f (aP.take k) ((aP.take k).map AW)/\f.up=none/\aB (λj=>j=F) w3 wr
def PW(w3:aa)(F:Nat)(k:Nat)(u:Sl)(a:aa):Prop:=∃n:Sl,fp a F ⟨n,u,none⟩/\a.ownsRow w3.heap.size 9 1 n.v (k+1) ((aP.take (k+1)).map bO)/\a.ownsRow w3.heap.size 96 5 u.v k (bw ((aP.take k).map AW))/\aB (λj=>j=F) w3 a
theorem take_one(b:k<14):aP.take (k+1)=aP.take k++[(aP[k]?).getD []]:=by
 have a:k<aP.length:=b;rw[mn a,fA a];rfl
theorem fp.Ra{w:aa}(h:fp w g f)(u:Sl):fp (w.setCell (dq g 0) (.slice u.a u.n u.c)) g {f with names:=u}:=by
 unfold fp at *;rw[TH h]
 congr 1
theorem fp.sH{w:aa}(h:fp w g f)(u:Sl):fp (w.setCell (dq g 1) (.slice u.a u.n u.c)) g {f with vals:=u}:=by
 unfold fp at *;rw[TH h]
 congr 1
theorem Np{nc:Nat}{up:a8}(q:k<14)(o:fp wr F ⟨⟨na,k,nc⟩,⟨va,k,vc⟩,up⟩)(l:wr.ownsRow w3.heap.size 9 1 (.slice na k nc) k ((aP.take k).map bO))(n:wr.ownsRow w3.heap.size 96 5 (.slice va k vc) k (bw ((aP.take k).map AW)))(m:up=none)(r:aB (λj=>j=F) w3 wr)(p:F<w3.heap.size)(s:y=⟨((aP[k]?).getD []).toArray⟩)(b:aB (λj=>(Value.slice na k nc).ownBlock=some j) wr w7)(d:w7.ownsRow w3.heap.size 9 1 (.slice (eb gb) (k+1) cap) (k+1) ((aP.take k).map bO++[.string y])):PW w3 F k ⟨va,k,vc⟩ (w7.setCell (dq F 0) (.slice (eb gb) (k+1) cap)):=by
 subst m;have i:fp w7 F ⟨⟨na,k,nc⟩,⟨va,k,vc⟩,none⟩:=b.at o (λh=>by have:=(ar l h).1;omega);have a:aB (λj=>j=F) w7 (w7.setCell ⟨F,0,none⟩ (.slice (eb gb) (k+1) cap)):=(TU _ w7).aY;refine⟨⟨eb gb,k+1,cap⟩,i.Ra ⟨eb gb,k+1,cap⟩,?_,?_,((r.trans b (λj t h=>by have:=(ar l h).1;omega)).aY)⟩
 .rw[take_one q,s8];have:=aq d a (λg c e=>by have:=(ar d c).1;omega);rw[s] at this;exact this
 .refine aq (aq n b (λg c e=> ?_)) a (λg c e=>by have:=(ar n c).1;omega);obtain⟨c1,h1⟩:=bt n c;obtain⟨c2,h2⟩:=bt l e;exact bB h1 h2 (by decide) rfl
theorem Kd(r:k<14)(p:fp wc F ⟨u,⟨va,k,vc⟩,none⟩)(m:wc.ownsRow w3.heap.size 9 1 u.v (k+1) ((aP.take (k+1)).map bO))(n:wc.ownsRow w3.heap.size 96 5 (.slice va k vc) k (bw ((aP.take k).map AW)))(s:aB (λj=>j=F) w3 wc)(q:F<w3.heap.size)(t:y=⟨((aP[k]?).getD []).toArray⟩)(b:aB (λj=>(Value.slice va k vc).ownBlock=some j) wc w7)(i:w7.ownsRow w3.heap.size 96 5 (.slice (some ⟨gb,0,none⟩) (k+1) cap) (k+1) (bw ((aP.take k).map AW)++[Jn 7,Jn 0,.string y,.pointer none,.pointer none])):Oc w3 F (k+1) (w7.setCell ⟨F,1,none⟩ (.slice (some ⟨gb,0,none⟩) (k+1) cap)):=by
 have l:fp w7 F ⟨u,⟨va,k,vc⟩,none⟩:=b.at p (λh=>by have:=(ar n h).1;omega);have a:aB (λj=>j=F) w7 (w7.setCell ⟨F,1,none⟩ (.slice (some ⟨gb,0,none⟩) (k+1) cap)):=(TU _ w7).aY;have o:(aP.take (k+1)).length=k+1:=by simp[aP];omega
 refine⟨_,⟨l.sH ⟨some ⟨gb,0,none⟩,k+1,cap⟩,?_,?_,by simp⟩,rfl,((s.trans b (λj w h=>by have:=(ar n h).1;omega)).aY)⟩
 .rw[o];refine aq (aq m b (λg d e=> ?_)) a (λg d e=>by have:=(ar m d).1;omega);obtain⟨c1,h1⟩:=bt m d;obtain⟨c2,h2⟩:=bt n e;exact bB h1 h2 (by decide) rfl
 .rw[ta,o,take_one r,s8];have:=aq i a (λg d e=>by have:=(ar i d).1;omega);rw[t] at this;rw[show bw ((aP.take k).map AW++[(aP[k]?).getD []].map AW)=bw ((aP.take k).map AW)++[Jn 7,Jn 0,.string ⟨((aP[k]?).getD []).toArray⟩,.pointer none,.pointer none] by simp[bw,AW,Vc.c]];exact this
theorem No(h:sX wr w3.heap.size F f (aP.take 14) ((aP.take 14).map AW))(hB:B<=w3.heap.size):sX wr B F f aP (aP.map AW):=⟨h.fc,ba h.nr hB,ba h.vr hB,h.ln⟩
set_option maxHeartbeats 8000000 in
theorem FT(w:aa)(fo:Sl):cl 71 #[.slice fo.a fo.n fo.c] w (Ob w fo):=by
 obtain⟨i0,hi,h0,h1,h2⟩:=sv rL;have HI:=ag (ei hi (ei h0 (ei h1 h2)));obtain⟨j0,hj,X,Y,Z⟩:=sv kh;have HJ:=ag (ei hj (ei X (ei Y Z)));have mixed:prog.follows Departure.mixedOrders=true:=by kernel_rfl
 obtain⟨w3,q⟩:∃w3,w3=((w.alloc (.cells #[.slice none 0 0,.slice none 0 0,.pointer none] 229)).alloc (.cells (⟨fo,0,0,0,0,cQ 0 0,none,none,ef,0,eb w.heap.size,ef,⟨#[]⟩⟩:Rm).c 168)).alloc (.cells (aP.map bO).toArray 9):=⟨_,rfl⟩;clear hi h0 h1 h2 hj X Y Z;obtain⟨F,p⟩:∃F,F=w.heap.size:=⟨_,rfl⟩;obtain⟨M,t⟩:∃M,M=w.heap.size+1:=⟨_,rfl⟩;obtain⟨L,s⟩:∃L,L=w.heap.size+1+1:=⟨_,rfl⟩;have U:fp w3 F ⟨ef,ef,none⟩:=by rw[q,p];exact aw (aw (fK _ _))
 have x:aI w3 M ⟨fo,0,0,0,0,cQ 0 0,none,none,ef,0,eb F,ef,⟨#[]⟩⟩:=by
  rw[q,t,p];refine aw ?_;rw[aQ,fN (by simp)]
 have v:w3.heap[L]? =some (.cells (aP.map bO).toArray 9):=by rw[q,s,aQ,fN (by simp)]
 have z:Below w.heap.size w w3:=by rw[q];exact(((fL _ w).alloc (ew _) _).alloc (by simp) _).alloc (by simp;omega) _
 have J:w3.heap.size=w.heap.size+3:=by rw[q];simp
 have HS:Hid (Oc w3 F 0 w3):=⟨⟨ef,ef,none⟩,⟨U,oh _ _ _ _,oh _ _ _ _,rfl⟩,rfl,TU _ _⟩;have HB:=ag (ei x (ei v (ei z (ei J (ei p (ei t s))))));have h6:¬F=M:=by omega
 have hd:¬M=L:=by omega
 have h5:¬F=L:=by omega
 simp only[Rm.c,cQ,ef,aP,v6,SS,bO] at q;clear U x v z J;go_enter func71,ntmps71;go_wp2;rw[<-q,<-s,<-t,<-p];clear q p t s
 go_loopw [5] (λi wr=>∃k:Nat,k<=14/\i=Jn k/\Oc w3 F k wr) (λi _=>14-(intOf i).toNat)
 case atStart=>exact⟨0,by omega,rfl,HS.out⟩
 case round=>
  clear HS;obtain⟨k,hk,rfl,f,T,P,m⟩:=hrel;obtain⟨x,v,z,J,p,t,s⟩:=HB.out;have G:=m.at x (by omega);have N:=m.at v (by omega);have hf:=m.size;have O:(aP.take k).length=k:=by simp[aP];omega
  by_cases hlt:k<14
  .obtain⟨⟨na,nn,nc⟩,⟨va,d,vc⟩,up⟩:=f;have A:wr.ownsRow w3.heap.size 9 1 (.slice na nn nc) k ((aP.take k).map bO):=by have:=T.nr;rw[O] at this;exact this
   have C:wr.ownsRow w3.heap.size 96 5 (.slice va d vc) k (bw ((aP.take k).map AW)):=by have:=T.vr;rw[ta,O] at this;exact this
   have hb:nn=k:=dg A;have hc:d=k:=dg C;subst hb;subst hc;obtain⟨y,hy⟩:∃y:ao,y=⟨((aP[d]?).getD []).toArray⟩:=⟨_,rfl⟩;have l0:wr.cell? ⟨L,d,none⟩=some (.string y):=by
    rw[ae N,hy];have R:d<aP.length:=hlt;simp[bO,fA R]
   have E:=T.fc;have g0:Cl wr M 14 (Pt F):=aI.cell G 14;have p0:=kd E 0 (.slice na d nc);have pf:=ah E;have h7:=ai E;have h9:=ai G;have h8:=ai N;have K:=ag (ei E (ei A (ei C P)));have HU:=ag m;have HY:=ag hy;have HM:=ag (ei G N);have S:=ag (show F<w3.heap.size/\M<w3.heap.size/\L<w3.heap.size by omega);have i1:(0:Int)<=(d:Int):=by omega
   have i2:(d:Int)<14:=by omega
   clear T m hy G N x v z J P p t s A C E O
   go_upto_region 6 with fail
   go_cut [] (λwc=>PW w3 F d ⟨va,d,vc⟩ wc)
   case first=>
    go_region_law (refine R2 _ rfl (.tmp 28) (.tmp 33) 26 rfl w3.heap.size 9 i0 (.string ⟨#[]⟩) 1 16 underlying26 HI.out.1 HI.out.2.1 HI.out.2.2.1 HI.out.2.2.2 rfl (by decide) (.slice na d nc) d ((aP.take d).map bO) (by simp[Act.eval,Act.put]) (K.out.2.1.alloc _) ⟨wr.heap.size,0,none⟩ 1 1 [.string y] (by simp[Act.eval,Act.put]) rfl (PL (fK _ _)) (by intro u m;simp at m;subst m;rfl) (by decide) (by unfold maxLen;omega) (by omega) (by simp;omega) (wr.heap.size+1) (by simp) ?_;intro gb7 cap7 w7 l b I W;have r:=ag (T2 (((TU (λk=>(Value.slice na d nc).ownBlock=some k) wr).alloc _).drew) b (λk hk _=>hk));have Q:=ag l;have j:=r.out.at K.out.1 (λh=>by have:=(ar K.out.2.1 h).1;have:=S.out;omega);have q0:w7.cell? ⟨F,0,none⟩=some (.slice na d nc):=ae j 0;have qf:=ah j 0;have H:=r.out.at HM.out.1 (λh=>by have:=(ar K.out.2.1 h).1;have:=S.out;omega);have g7:w7.cell? ⟨M,14,none⟩=some (Pt F):=aI.cell H 14;have V:=ai j;have h3:=ag j;clear l b I j H)
    all_goals go_wp2
    all_goals go_meet
    all_goals exact Np hlt K.out.1 K.out.2.1 K.out.2.2.1 K.out.2.2.2 HU.out S.out.1 HY.out r.out Q.out
   case rest=>
    obtain⟨⟨pa,pn,pc⟩,D,A,C,m⟩:=hcut;have he:=m.size;have G:=m.at HB.out.1 (λe=>h6 e.symm);have N:=m.at HB.out.2.1 (λe=>h5 e.symm);have l0:wc.cell? ⟨L,d,none⟩=some (.string y):=by
     rw[ae N,HY.out];have R:d<aP.length:=hlt;simp[bO,fA R]
    have g0:Cl wc M 14 (Pt F):=aI.cell G 14;have p1:=kd D 1 (.slice va d vc);have pf:=ah D;have h7:=ai D;have h9:=ai G;have h8:=ai N;have o:=ag (ei D (ei A (ei C m)));have h4:=ag G;clear D A C m G N K HU;go_wp2;go_region_law (refine R2 _ rfl (.tmp 47) (.tmp 53) 65 rfl w3.heap.size 96 j0 fm 5 48 underlying65 HJ.out.1 HJ.out.2.1 HJ.out.2.2.1 HJ.out.2.2.2 rfl (by decide) (.slice va d vc) d (bw ((aP.take d).map AW)) (by simp[Act.eval,Act.put]) (o.out.2.2.1.alloc _) ⟨wc.heap.size,0,none⟩ 1 1 [Jn 7,Jn 0,.string y,.pointer none,.pointer none] (by simp[Act.eval,Act.put]) rfl (iO (fK _ _)) (by intro u m;simp at m;rcases m with rfl|rfl|rfl|rfl|rfl<;>rfl) (by decide) (by unfold maxLen;omega) (by omega) (by simp;omega) (wc.heap.size+1) (by simp) ?_;intro gb7 cap7 w7 l b I W;have r:=ag (T2 (((TU (λk=>(Value.slice va d vc).ownBlock=some k) wc).alloc _).drew) b (λk hk _=>hk));have Q:=ag l;have j:=r.out.at o.out.1 (λh=>by have:=(ar o.out.2.2.1 h).1;have:=S.out;omega);have q0:w7.cell? ⟨F,1,none⟩=some (.slice va d vc):=ae j 1;have qf:=ah j 1;have H:=r.out.at h4.out (λh=>by have:=(ar o.out.2.2.1 h).1;have:=S.out;omega);have g7:w7.cell? ⟨M,14,none⟩=some (Pt F):=aI.cell H 14;have V:=ai j;have h3:=ag j;clear l b I j H)
    all_goals
     go_wp2;go_roundw
     case rel=>exact⟨d+1,by omega,by go_num,Kd hlt o.out.1 o.out.2.1 o.out.2.2.1 o.out.2.2.2 S.out.1 HY.out r.out Q.out⟩
     case measure=>simp[intOf];omega
  .have ha:k=14:=by omega
   subst ha;have HE:Hid (Ob w fo (.returned (Pt M)) wr):=⟨M,F,f,rfl,by omega,by omega,G,No T (by omega),P,z.trans (m.below (by omega) (λk e=>by omega))⟩;clear T P m x v z J p t s G N O;go_wp2;go_ret;exact HE.out
end
end Go.Proofs.YtlobegpjenabaaaGreatDoor
