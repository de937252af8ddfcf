import Derived.Test.YtlobegpjenabaaaGreatDoorT32
namespace Go.Proofs.YtlobegpjenabaaaGreatDoor
open Go.RowKit Tryz
set_option linter.unusedSimpArgs false
set_option linter.unusedVariables false
set_option maxRecDepth 100000
set_option maxHeartbeats 4000000
variable {j n M N C g L i:Nat} {ol ol' o o0:Nat->Option Nat} {zb':Nat->Option ao} {m':Lc} {x':Nat->a7} {ls':List Sl} {zs':List ao} {T:bi} {S Y0:a9} {p:Pm} {fx:List X} {α:Type} {w1 w2 w3 w0:aa} {fo:Sl} {z:BS} {vs:List V}
variable {I:aa} {B:Nat} {w w':aa} {Y Y':a9} {ow:Nat->Nat->Option Nat} {zb:Nat->Option ao} {W:Nat} {m:Lc} {x:Nat->a7} {ls:List Sl} {zs:List ao} {cds:List (Nat×Sl)} {ps:List Pm} {rs:Nat->RR} {qs:Nat->jc}
def AL(I:aa)(B W nc nm c:Nat)(w:aa):Prop:=∃Y ow f m x ls g a b e d,LW I B w Y ow f W m x ls g a b e d/\(∀(j:Nat) p,b[j]? =some p->BQ p.z p.vs (e j) (d j))/\a.length=nc/\b.length=nm/\nc<=c/\nm<=c/\ls.length<=4 *c/\m.last<=c
def Dg(I:aa)(B W nc nm c:Nat)(e:bo)(w':aa):Prop:=e=.returned (.bool true)/\AL I B W nc nm c w'
def xW(w:aa)(Y:a9)(W j:Nat)(w':aa):Prop:=(∀k,k<w.heap.size->¬Y k->w'.heap[k]? =w.heap[k]?)/\w'.cell? ⟨W,j,none⟩=w.cell? ⟨W,j,none⟩/\∀g n c,w.cell? ⟨W,j,none⟩=some (.slice (eb g) n c)->∀k,k<n *2->w'.cell? ⟨g,k,none⟩=w.cell? ⟨g,k,none⟩
theorem xW.of(h:LS B w ol zb W m x ls zs)(d:LS B w' ol' zb' W m' x' ls' zs')(D:j<2)(hm:m'.r j=m.r j)(l:x' j=x j)(ho:∀k,k<w.heap.size->¬Y k->w'.heap[k]? =w.heap[k]?):xW w Y W j w':=by
 have b:∀{w:aa} {m:Lc},mA w W m->w.cell? ⟨W,j,none⟩=some (m.r j).w:=λh=>by
  rw[ae h];obtain rfl|rfl:j=0\/j=1:=by omega
  all_goals rfl
 refine⟨ho,by rw[b h.lc,b d.lc,hm],λg n c e k E=> ?_⟩;rw[b h.lc] at e;have e:=SM (show Value.slice (m.r j).a (m.r j).n (m.r j).c=_ from pb e);have F:(x j).length=n *2:=by
  rw[(h.ro j (by omega)).1,e.2.1];obtain rfl|rfl:j=0\/j=1:=by omega
  all_goals rfl
 have r:∀{w:aa} {v:al},w.ownsRow B (LT j) (Lz j) v n (x j)->v=.slice (eb g) n c->w.cell? ⟨g,k,none⟩=(x j)[k]?:=λh1 h2=>by
  subst h2;obtain⟨a,y,q,_,_,s⟩:=ay h1;obtain⟨A,t,_,_,u⟩:=s (by omega);cases q;cases t;rw[u k _ (fA (by omega)),fA (by omega)]
 have f:(m.r j).w=.slice (eb g) n c:=by unfold Sl.w;rw[e.1,e.2.1,e.2.2]
 have r1:=h.ro j (by omega);have r2:=d.ro j (by omega);rw[hm,l,e.2.1] at r2;rw[e.2.1] at r1;rw[r r1 f,r r2 f]
theorem LS.Rx(h:LS B w ol zb W m x ls zs)(D:zs.length=ls.length):Kp w m:=λi hi=>by
 have r2:=h.ro 2 (by decide);have r3:=h.ro 3 (by decide);have l2:ls.length=(m.r 2).n:=by have:=r2.1;rw[h.x2,ta] at this;simpa[Lz] using this
 have l3:zs.length=(m.r 3).n:=by have:=r3.1;rw[h.x3,ta] at this;simpa[Lz] using this
 obtain⟨a,c,f,_,_,v⟩:=ay r2;obtain⟨a',A,e2,_,_,y⟩:=ay r3;obtain⟨g,rfl,_,_,l⟩:=v (by omega);obtain⟨s,rfl,_,_,q⟩:=y (by omega);have k2:ls[i]? =some ls[i]:=fA (by omega);have k3:zs[i]? =some zs[i]:=fA (by omega);refine⟨g,s,ls[i],zs[i],(SM (show Value.slice (m.r 2).a (m.r 2).n (m.r 2).c=_ from f)).1,(SM (show Value.slice (m.r 3).a (m.r 3).n (m.r 3).c=_ from e2)).1,by omega,l i _ (by rw[h.x2,Sa,k2];rfl),q i _ (by rw[h.x3,Sa,k3];rfl),?_⟩;obtain⟨u,e⟩:=h.kp i _ _ k2 k3;refine⟨u,λk z d=> ?_⟩;have b:=(ke.1 d).1;rw[List.length_replicate] at b;rw[S2,fN b] at d;cases d;rcases e with e|⟨g,c,h1,h2,h3,t⟩
 .omega
 .exact⟨g,h1,(ae h3 k).trans (t k b)⟩
theorem DS(h:LW I B w Y ow zb W m x ls zs cds ps rs qs)(a:ls.length<=1000000000):cl 35 #[Pt W] w (Oe w):=Mf w W m h.st.lc (h.st.Rx h.len) (by
 have:=(h.st.ro 2 (by decide)).1;rw[h.st.x2,ta] at this;simp only[Lz] at this;omega)
theorem jh{c:bc}(b:aB S w w')(hb:w.heap[n]? =some (.cells c T))(a:¬S n)(k:Nat):w'.cell? (dq n k)=c[k]?:=ae (b.at hb a) k
theorem LW.boxes(h:LW I B w Y ow zb W m x ls zs cds ps rs qs)(L D:Nat)(o:bc):∃w0,w0=(w.alloc (.cells #[Pt L,Pt D] 101)).alloc (.cells o 32)/\Below w.heap.size w w0/\LW I B w0 Y ow zb W m x ls zs cds ps rs qs/\(∀k,w.heap.size<=k->¬Y k)/\w0.heap[w.heap.size]? =some (Obj.cells #[Pt L,Pt D] 101 (0,0))/\w0.heap[w.heap.size+1]? =some (Obj.cells o 32 (0,0)):=
 ⟨_,rfl,(aR _ _).trans ((aR _ _).mono (by simp)),h.below ((aR _ _).trans ((aR _ _).mono (by simp))),λk b a=>by have:=h.fam.lt a;omega,aw (fK _ _),(by simp:(w.alloc (.cells #[Pt L,Pt D] 101)).heap.size=w.heap.size+1)▸fK _ _⟩
theorem Lq(h:LW I B w Y ow zb W m x ls zs cds ps rs qs)(hq:∀(j:Nat) p,ps[j]? =some p->BQ p.z p.vs (rs j) (qs j))(hj:ps[j]? =some p)(oc om n:Int)(os:ao)(c:Nat)(hc:cds.length<=c/\ps.length<=c/\ls.length<=4 *c/\m.last<=c):cl 48 #[Pt W,.agg #[Pt p.L,Pt p.D],.agg #[Jn 3,Jn oc,Jn om,Jn n,.string os]] w (λe w'=>Dg I B W cds.length ps.length (c+1) e w'/\xW w Y W 1 w'):=by
 obtain⟨w0,K,v,f,Z,t,u⟩:=h.boxes p.L p.D #[Jn 3,Jn oc,Jn om,Jn n,.string os];obtain⟨a,b,P,O,y,X,s⟩:=Hd f hq hj n;have R:=ag X;have q:=ag s;have F:=ag t;have G:=ag u;have U:=ag Z;have HQ:=ag y;have E:=ag hc;have H:=ag h;have l:=ag v;clear h f Z t u X s hq y hc v;go_enter func48,ntmps48;go_wp2_with fail;rw[<-K];refine R.out.mono ?_;rintro e w1 ⟨_,_,rfl,rfl,rfl,r,V,ow1,A,h1⟩;have d1:Cl w1 w.heap.size 1 (Pt p.D):=jh r F.out (U.out _ (ew _)) 1;have d3:Cl w1 (w.heap.size+1) 3 (Jn n):=jh r G.out (U.out _ (by omega)) 3;have Q:=ag (q.out w1 V ow1 h1);have HF:=ag (show∀w2,aB V w1 w2->∀k,k<w.heap.size->¬Y k->w2.heap[k]? =w.heap[k]? from λw2 d k hk hn=>by
  have f:k<w0.heap.size:=gr hk l.out.size;rw[d.block k (gr f r.size) (λe=>hn (A k f e)),r.block k f hn,l.out.block k hk])
 clear h1 r R q A;go_wp2_with fail;refine Q.out.mono ?_;rintro e w2 ⟨rfl,d,Y2,ow2,_,h2⟩;have J:=ag (xW.of H.out.st h2.st (j:=1) (by decide) rfl rfl (HF.out w2 d));have HE:Hid (AL I B W cds.length ps.length (c+1) w2):=⟨Y2,ow2,zb,m,x,ls,zs,cds,ps,P,O,h2,HQ.out,rfl,rfl,by have:=E.out.1;omega,by have:=E.out.2.1;omega,by have:=E.out.2.2.1;omega,by have:=E.out.2.2.2;omega⟩;clear h2 Q d1 d3 d;go_wp2;go_ret;exact⟨⟨rfl,HE.out⟩,J.out⟩
theorem G6(h:LW I B w Y ow zb W m x ls zs cds ps rs qs)(Q:∀(j:Nat) p,ps[j]? =some p->BQ p.z p.vs (rs j) (qs j))(H:ps[j]? =some p)(oc om n:Int)(os:ao)(c:Nat)(hc:cds.length<=c/\ps.length<=c/\ls.length<=4 *c/\m.last<=c):cl 48 #[Pt W,.agg #[Pt p.L,Pt p.D],.agg #[Jn 4,Jn oc,Jn om,Jn n,.string os]] w (λe w'=>Dg I B W cds.length ps.length (c+1) e w'/\xW w Y W 1 w'):=by
 obtain⟨w0,Z,q,O,hY,G,a⟩:=h.boxes p.L p.D #[Jn 4,Jn oc,Jn om,Jn n,.string os];obtain⟨t0,t1,t2,t3,_,hS⟩:=vR 0 (Q j p H);have X:=IZ (O.mc j p H).mw hS (O.mc j p H).lm;have hR:∀w1,LW I B w1 Y ow zb W m x ls zs cds ps rs qs->cl 73 #[Pt p.D] w1 (GM w1 (QF (rs j)) (QE (rs j)) (Qt (rs j)) (QG (rs j))):=λw1 h1=>by
  obtain⟨c1,hr⟩:=(h1.mc j p H).rm;obtain⟨t0,t1,t2,t3,_,_⟩:=vR c1 (Q j p H);rw[t0,t1,t2,t3];exact JP hr
 obtain⟨st,t⟩:∃v,v=QF (rs j):=⟨_,rfl⟩;obtain⟨er,s⟩:∃v,v=QE (rs j):=⟨_,rfl⟩;obtain⟨K,r⟩:∃v,v=Qt (rs j):=⟨_,rfl⟩;obtain⟨R,u⟩:∃v,v=QG (rs j):=⟨_,rfl⟩;rw[<-t,<-s,<-r,<-u] at X;simp only[<-t,<-s,<-r,<-u] at hR;have HL:=ag X;have HR:=ag hR;have H0:=ag O;have A:=ag G;have E:Hid (∀w2,LW I B w2 Y ow zb W m x ls zs cds ps rs qs->Below w0.heap.size w0 w2->xW w Y W 1 w2):=λw2 h2 hb=>xW.of h.st h2.st (by decide) rfl rfl (λk hk _=>(hb.block k (gr hk q.size)).trans (q.block k hk));have HE:Hid (∀w2,LW I B w2 Y ow zb W m x ls zs cds ps rs qs->AL I B W cds.length ps.length (c+1) w2):=λw2 h2=>⟨Y,ow,zb,m,x,ls,zs,cds,ps,rs,qs,h2,Q,rfl,rfl,by omega,by omega,by omega,by omega⟩;clear h O hY G a X hR Q hc t0 t1 t2 t3 hS t s r u q;go_enter func48,ntmps48;go_wp2_with fail;rw[<-Z];refine HL.out.mono ?_;rintro e w1 ⟨P,a⟩;unfold IW at P;subst P;have d1:Cl w1 w.heap.size 1 (Pt p.D):=jh (TW (λ_=>False) a) A.out (λh=>h) 1;have hlt:w.heap.size<w1.heap.size:=by have:=a.size;have:=ai A.out;omega
 obtain⟨w2,d⟩:∃w2,w2=w1.alloc (.cells #[Jn st,Jn er,Jn K,.string R] 52):=⟨_,rfl⟩;have h2:LW I B w2 Y ow zb W m x ls zs cds ps rs qs:=by rw[d];exact(H0.out.below a).below (aR _ _)
 have J:w2.heap[w1.heap.size]? =some (.cells #[Jn st,Jn er,Jn K,.string R] 52):=by rw[d];exact fK _ _
 have H2:=ag h2;have f:=ag (show Below w0.heap.size w0 w2 by rw[d];exact a.trans ((aR _ _).mono a.size));have l:=ag J;have F:=ag (HR.out w2 h2);clear a h2 J HL HR H0;go_wp2_with fail;rw[<-d];refine F.out.mono ?_;rintro e w3 ⟨P,b⟩;subst P;have y:=jh (TW (λ_=>False) b) l.out (λh=>h);have y0:Cl w3 w1.heap.size 0 (Jn st):=y 0;have y1:Cl w3 w1.heap.size 1 (Jn er):=y 1;have y2:Cl w3 w1.heap.size 2 (Jn K):=y 2;have y3:Cl w3 w1.heap.size 3 (.string R):=y 3;have h3:w1.heap.size<w3.heap.size:=by have:=b.size;have:=ai l.out;omega
 have V:=(H2.out.below b).below (aR w3 (.cells #[Jn st,Jn er,Jn K,.string R] 52));have HA:=ag (HE.out _ V);have U:=ag (E.out _ V (f.out.trans ((b.trans ((aR _ _).mono b.size)).mono f.out.size)));clear b y F H2 l HE V f E;go_wp2;go_ret;exact⟨⟨rfl,HA.out⟩,U.out⟩
theorem G7(h:LW I B w Y ow zb W m x ls zs cds ps rs qs)(r:∀(j:Nat) p,ps[j]? =some p->BQ p.z p.vs (rs j) (qs j))(p:Pm)(k oc om n:Int)(os:ao)(c:Nat)(u:cds.length<=c/\ps.length<=c/\ls.length<=4 *c/\m.last<=c)(h3:¬k=3)(y:¬k=4)(A:¬k=5):cl 48 #[Pt W,.agg #[Pt p.L,Pt p.D],.agg #[Jn k,Jn oc,Jn om,Jn n,.string os]] w (λe w'=>Dg I B W cds.length ps.length (c+1) e w'/\xW w Y W 1 w'):=by
 obtain⟨w0,q,a,d,t,f,l⟩:=h.boxes p.L p.D #[Jn k,Jn oc,Jn om,Jn n,.string os];have s:Hid (AL I B W cds.length ps.length (c+1) w0):=⟨Y,ow,zb,m,x,ls,zs,cds,ps,rs,qs,d,r,rfl,rfl,by omega,by omega,by omega,by omega⟩;have b:=ag (xW.of (Y:=Y) h.st d.st (j:=1) (by decide) rfl rfl (λk v _=>a.block k v));clear h d t f l r u a;go_enter func48,ntmps48;go_wp2;rw[<-q];go_ret;exact⟨⟨rfl,s.out⟩,b.out⟩
theorem RM.out{c:Nat}:∀{q:jc},RM B w Y o M fx c q->∃md,aI w M md/\lC w 0 o md.out.v (O4 q)
 |.run _,⟨_,_,_,_,md,h1,h2,_⟩=>⟨md,h1,h2.ou⟩
 |.err _ _ _,⟨md,h1,_,_,_,_,_,h2,_⟩=>⟨md,h1,h2⟩
 |.done _ _,⟨md,h1,_,_,_,_,_,h2,_⟩=>⟨md,h1,h2⟩
def Gi(o:List au):List ao:=o.map λl=>⟨l.toArray⟩
theorem JQ{v:al}{o:List au}(h:w.ownsRow N 9 1 v n (o.map bO)):∃a c,v=.slice a (Gi o).length c/\Tx w a (Gi o):=by
 have f:(Gi o).length=n:=by have:=h.1;unfold Gi;rw[ta] at this ⊢;omega
 obtain⟨a,c,e,_,_,q⟩:=ay h;refine⟨a,c,by rw[f];exact e,λk z b=> ?_⟩;have r:=(ke.1 b).1;obtain⟨g,d,_,_,e2⟩:=q (by omega);refine⟨g,d,e2 k _ ?_⟩;unfold Gi at b;rw[Sa] at b ⊢;cases ho:o[k]? with
 |none=>rw[ho] at b;cases b
 |some l=>rw[ho] at b;cases b;rfl
theorem LW.law(h:LW I B w Y ow zb W m x ls zs cds ps rs qs)(hS:LS B w' o zb' W m' x' ls' zs')(l:zs'.length=ls'.length)(f:Lg w.heap.size w (ow 0) w' o)(a:QX m x m' x'):∃Y' ow',LW I B w' Y' ow' zb' W m' x' ls' zs' cds ps rs qs:=by
 obtain⟨Y',ow',b,d,e,_⟩:=h.own hS f;exact⟨Y',ow',b.fam,b.lv,by rw[d];exact hS,l,a.2.2.1.trans h.xc,a.2.2.2.trans h.xm,b.cd,λj p k=>b.mc j p k (by omega) (by omega),λi hi=>(e i (by omega)).trans (h.no i hi)⟩
theorem Lp(h:LW I B w Y ow zb W m x ls zs cds ps rs qs)(hq:∀(j:Nat) p,ps[j]? =some p->BQ p.z p.vs (rs j) (qs j))(hj:ps[j]? =some p)(oc om n:Int)(os:ao)(c:Nat)(hc:cds.length<=c/\ps.length<=c/\ls.length<=4 *c/\m.last<=c)(hs:c<=10000000):cl 48 #[Pt W,.agg #[Pt p.L,Pt p.D],.agg #[Jn 5,Jn oc,Jn om,Jn n,.string os]] w (λe w'=>Dg I B W cds.length ps.length (c+1) e w'/\xW w Y W 1 w'):=by
 obtain⟨w0,hi,h9,V,hY,h8,b⟩:=h.boxes p.L p.D #[Jn 5,Jn oc,Jn om,Jn n,.string os];have hT:=V.mc j p hj;obtain⟨c1,hr⟩:=hT.rm;obtain⟨md,Q,s⟩:=hr.out;obtain⟨_,_,_,_,ho,_⟩:=vR 0 (hq j p hj);have hO:=MH hT.mw hT.lm;rw[ho] at hO;obtain⟨o,hb⟩:∃o,o=O4 (qs j):=⟨_,rfl⟩;rw[<-hb] at hO s;obtain⟨R,_,ha⟩:=s;obtain⟨⟨da,dn,dc⟩,O⟩:∃u,u=md.out:=⟨_,rfl⟩;have hD:=Q.cell 15;have h7:w0.cell? (dq p.D 15)=some (.slice da dn dc):=by rw[hD];show some (Value.slice md.out.a md.out.n md.out.c)=_;rw[<-O]
 rw[<-O] at R;obtain⟨a1,hm,e1,hd⟩:=JQ R;cases (show Value.slice da dn dc=_ from e1);have hg:=ai Q;have HO:=ag hO;have U:=ag V;have X:=ag h8;have h6:=ag hd;have hu:(Gi o).length<=40:=by unfold Gi;rw[ta];exact ha
 have HE:Hid (∀w2 Y' ow' zb' m' x' ls' zs',LW I B w2 Y' ow' zb' W m' x' ls' zs' cds ps rs qs->ls'.length=ls.length+4->m'.last=m.last+1->AL I B W cds.length ps.length (c+1) w2):=λw2 Y' ow' zb' m' x' ls' zs' h2 e1 e2=>⟨Y',ow',zb',m',x',ls',zs',cds,ps,rs,qs,h2,hq,rfl,rfl,by omega,by omega,by omega,by omega⟩;have ht:ls.length<=40000000:=by omega
 have H:=ag h;have Z:=ag h9;have hh:m.last<1000000000000:=by omega
 clear h V hY h8 b hO hq hc R ho hb e1 hd hT hr Q hD O h9;go_enter func48,ntmps48;go_wp2_with fail;rw[<-hi];refine HO.out.mono ?_;rintro e w1 ⟨v,rfl,d,b⟩;rw[ta] at d;obtain⟨a2,c2,rfl,he⟩:=JQ d;have d1:Cl w1 w.heap.size 1 (Pt p.D):=jh (TW (λ_=>False) b) X.out (λh=>h) 1;have hlt:w.heap.size<w1.heap.size:=by have:=b.size;have:=ai X.out;omega
 have hp:Cl w1 p.D 15 (.slice da (Gi o).length dc):=(b.cell (p:=(dq p.D 15)) hg).trans h7;have hl:p.D<w1.heap.size:=by have:=b.size;omega
 have y:=ag b;have F:=ag d;have HS:=ag (Km w1 a2 da c2 dc (Gi o) he (λk z hz=>by
  obtain⟨g,e,q⟩:=h6.out k z hz;exact⟨g,e,(b.cell (p:=(dq g k)) (ir q)).trans q⟩) (by omega))
 clear b d he HO h7;go_wp2_with fail;refine HS.out.mono ?_;rintro e w2 ⟨rfl,J⟩;have G:Below w0.heap.size w0 w2:=y.out.trans (J.mono y.out.size);have A:=ag G;have f:=ag (dK F.out (w':=w2) λk P=>J.block k (ar F.out P).2);have h5:=ag (DS (U.out.below G) (by omega));clear J G HS F y h6;go_wp2_with fail;refine h5.out.mono ?_;rintro e w3 ⟨rfl,K⟩;have l:Below w0.heap.size w0 w3:=A.out.trans (K.mono A.out.size);have h3:=U.out.below l;have h1:=ag (Me h3.st h3.len w0.heap.size U.out.lv.hB l.size (λk P=>by
  cases e:ow 0 k with
  |none=>rfl
  |some t=>have:=U.out.fam.lt (U.out.fam.ox 0 k t e);omega) ⟨a2,(Gi o).length,c2⟩ _ (dK (by have:=f.out;rw[show o.length=(Gi o).length by unfold Gi;rw[ta]] at this;exact this) λk P=>K.block k (ar f.out P).2) (by show(Gi o).length<=_;omega) (by omega) hh)
 have E:=ag l;clear K l h3 h5 f A;go_wp2_with fail;refine h1.out.mono ?_;rintro e w4 ⟨rfl,ol',zb',m',x',ls',zs',hS,hL,n1,n2,n3,r⟩;obtain⟨Y',ow',h4⟩:=U.out.law hS (by omega) (((Lg.refl _ _ _).below E.out).trans hL) r;have HA:=ag (HE.out w4 Y' ow' zb' m' x' ls' zs' h4 n1 n3);have hf:=ag (xW.of (Y:=Y) H.out.st hS (j:=1) (by decide) r.2.1 r.2.2.2 (λk P hn=>by
  have V:k<w0.heap.size:=gr P Z.out.size;rw[hL.upd.block k (gr V E.out.size) (λe=>by
   rcases e with e|e
   .cases q:ow 0 k with
    |none=>exact e q
    |some t=>exact hn (H.out.fam.ox 0 k t q)
   .omega),E.out.block k V,Z.out.block k P]))
 clear hS hL n1 n2 n3 r h4 HE h1;go_wp2;go_ret;exact⟨⟨rfl,HA.out⟩,hf.out⟩
variable {I:aa} {B:Nat} {w w':aa} {Y Y':a9} {ow:Nat->Nat->Option Nat} {zb:Nat->Option ao} {W:Nat} {m:Lc} {x:Nat->a7} {ls:List Sl} {zs:List ao} {cds:List (Nat×Sl)} {ps:List Pm} {rs:Nat->RR} {qs:Nat->jc}
theorem ID:(prog.info? 69).map (λi=>(i.zero,i.size,i.bytes))=some (some (.agg #[.pointer none,.slice none 0 0]),2,32):=by kernel_rfl
theorem oe{f:α->a7}(hf:∀a,(f a).length=2):∀l:List α,(l.flatMap f).length=l.length *2
 |[]=>rfl
 |a::l=>by rw[Ps,ga,hf,oe hf l,j1];omega
theorem LW.nc(h:LW I B w Y ow zb W m x ls zs cds ps rs qs):(m.r 0).n=cds.length:=by
 have:=(h.st.ro 0 (by decide)).1;rw[h.xc,oe (λ_=>rfl)] at this;simp only[Lz] at this;omega
theorem LW.nm(h:LW I B w Y ow zb W m x ls zs cds ps rs qs):(m.r 1).n=ps.length:=by
 have:=(h.st.ro 1 (by decide)).1;rw[h.xm,oe (λ_=>rfl)] at this;simp only[Lz] at this;omega
theorem LW.code(h:LW I B w Y ow zb W m x ls zs cds ps rs qs)(hb:Below w.heap.size w w1){b:Nat}(t:CB w Y C fo b z vs fx){c:Nat}(s:nL w1 B (LT 0) (Lz 0) (m.r 0).w (m.r 0).n (x 0) (Pv (C,fo)) g c w2)(e3:w3=w2.setCell (dq W 0) (.slice (eb g) ((m.r 0).n+1) c)):∃Y' ow' m' x',LW I B w3 Y' ow' zb W m' x' ls zs (cds++[(C,fo)]) ps rs qs/\m'.last=m.last:=by
 obtain⟨hS,q⟩:=h.st.push hb 0 (by decide) _ g c s e3 ls zs ((bg _ _ (by decide)).trans h.st.x2) ((bg _ _ (by decide)).trans h.st.x3) h.st.kp w.heap.size hb.size;obtain⟨Y',ow',e,k,l,f⟩:=h.own hS q;have v:KI w w3:=RS.Mg (K:=0) h.fam.xt (h.fam.ox 0) f;refine⟨Y',ow',{m with r:=iH m.r 0 ⟨eb g,(m.r 0).n+1,c⟩},_,⟨e.fam,e.lv,by rw[k];exact hS,h.len,?_,(bg _ _ (by decide)).trans h.xm,λd a=> ?_,λj p u=>e.mc j p u (by omega) (by omega),λi hi=>(l i (by omega)).trans (h.no i hi)⟩,rfl⟩
 .rw[br,h.xc,RN];simp
 .rcases SO.1 a with a|a
  .exact e.cd d a
  .rw[Se] at a;subst a;exact⟨b,z,vs,fx,t.ak v f.upd.size (f.sW (h.fam.ox 0))⟩
theorem OB(h:LW I B w Y ow zb W m x ls zs cds ps rs qs)(hq:∀(j:Nat) p,ps[j]? =some p->BQ p.z p.vs (rs j) (qs j))(s:ao)(q:s.size<=maxLen)(c:Nat)(hc:cds.length<=c/\ps.length<=c/\ls.length<=4 *c/\m.last<=c)(hs:c<=10000000):cl 15 #[Pt W,.string s] w (λe w'=>∃nc,Dg I B W nc ps.length (c+1) e w'):=by
 have HC:=ag (By Q5 Oy s q w h.lv.mx);have R:=ag (λw1=>sx s q w1);have H:=ag h;obtain⟨i0,hi,hd,he,hg⟩:=sv ID;have HI:=ag (ei hi (ei hd (ei he hg)));have HE:Hid (∀w2 Y' ow' m' x' cds',LW I B w2 Y' ow' zb W m' x' ls zs cds' ps rs qs->m'.last=m.last->cds'.length<=c+1->∃nc,Dg I B W nc ps.length (c+1) (.returned (.bool true)) w2):=λw2 Y' ow' m' x' cds' h2 e1 e2=>⟨_,rfl,Y',ow',zb,m',x',ls,zs,cds',ps,rs,qs,h2,hq,rfl,rfl,e2,by omega,by omega,by omega⟩;have hr:=hc.1;clear h hi hd he hg q hq hc;unfold GG xY at *
 generalize ht:fH s.data.toList=cs at *
 obtain⟨er,ea⟩:=cs;go_enter func15,ntmps15;go_wp2_with fail;refine HC.out.mono ?_;rintro e w1 ⟨v,rfl,hv,V,l⟩;have O:=ag V;have HV:=ag hv;have D:=ag l;clear V hv HC l;go_wp2_with fail;refine(R.out _).mono ?_;rintro e w2 ⟨v2,rfl,G,y⟩;have P:=ag (O.out.trans (G.mono O.out.size));have hh:=ag G;have d:=ag y;clear G y R;by_cases h0:er=0
 .subst h0;obtain⟨K,rfl⟩:∃K,v=some K:=by
   have:=HV.out;cases v with
   |none=>cases this
   |some K=>exact⟨K,rfl⟩
  obtain⟨ho,f,hf,h8,h9,h4,A⟩:=d.out rfl;obtain⟨B',C,ks,wd,vs0,f0,f',rfl,hl,h3,b1,b2,h6,hb,Z,h7,U,h1⟩:=D.out K rfl;rw[hf] at h3;cases h3;obtain⟨fo,b,z,vs,fx,rfl,X⟩:=EA (Y:=Y) (λk hk=>H.out.fam.lt hk) hl hf b1 b2 h6 hb Z h7 U h1 hh.out h8 h9 h4 A;obtain⟨fa,fn,fc⟩:=fo;have h2:=H.out.below P.out;have H2:=ag h2;have Q:=ag X;obtain⟨⟨ra,J,rc⟩,a⟩:∃u,u=m.r 0:=⟨_,rfl⟩;have t:w2.ownsRow B 69 2 (.slice ra J rc) J (x 0):=by have:=h2.st.ro 0 (by decide);rw[<-a] at this;exact this
  have hw:J<=10000000:=by have:=h2.nc;rw[<-a] at this;simp only at this;omega
  have c0:w2.cell? (dq W 0)=some (.slice ra J rc):=by rw[ae h2.st.lc];show some (Sl.w (m.r 0))=_;rw[<-a];rfl
  have hp:=ai h2.st.lc;have hn:=h2.lv.hB;have HR:=ag t;clear t h2 X h8 h9 h4 A hf hl b1 b2 h6 hb Z h7 U h1 d HV D H;go_wp2_with (at_builtin;refine qw _ rfl (.tmp 44) (.tmp 48) 23 rfl B 69 i0 (.agg #[.pointer none,.slice none 0 0]) 2 32 underlying23 HI.out.1 HI.out.2.1 HI.out.2.2.1 HI.out.2.2.2 rfl (by decide) _ J (x 0) rfl (HR.out.alloc _) (dq w2.heap.size 0) 1 [Pt C,.slice fa fn fc] rfl rfl (m9 _ _ _ #[Pt C,.slice fa fn fc] rfl) (by intro u hu;simp at hu;rcases hu with rfl|rfl<;>rfl) (by unfold maxLen;omega) (by omega) (by simp;omega) ?_);intro g4 c4 w4 ha;have F:nL (w2.alloc (.cells #[.pointer (eb C),.slice fa fn fc] 69)) B (LT 0) (Lz 0) (m.r 0).w (m.r 0).n (x 0) (Pv (C,⟨fa,fn,fc⟩)) g4 c4 w4:=by rw[<-a];exact ha
  have E:=H2.out.st.stay (aR _ _) (by decide) F;have e0:w4.cell? (dq W 0)=some (.slice ra J rc):=by rw[ae E];show some (Sl.w (m.r 0))=_;rw[<-a];rfl
  have f0:=ah E 0;obtain⟨Y',ow',m',x',h5,hj⟩:=H2.out.code (aR _ _) Q.out F (w3:=w4.setCell (dq W 0) (.slice (eb g4) (J+1) c4)) (by rw[<-a]);have HF:=ag (HE.out _ Y' ow' m' x' _ h5 hj (by rw[ga];simp;omega));clear ha F E h5 HE HR H2 Q;go_wp2;go_ret;exact HF.out
 .have hm:v=none:=by
   have:=HV.out;cases v with
   |none=>rfl
   |some K=>simp[h0] at this
  subst hm;have HF:=ag (HE.out w2 Y ow m x cds (H.out.below P.out) rfl (by omega));have b0:(er !=0)=true:=by rw[SC];exact h0
  have b1:(er==0)=false:=by rw[j2];exact h0
  clear d HV D HE H;go_wp2;go_ret;exact HF.out
variable {I:aa} {B:Nat} {w w':aa} {Y Y':a9} {ow:Nat->Nat->Option Nat} {zb:Nat->Option ao} {W:Nat} {m:Lc} {x:Nat->a7} {ls:List Sl} {zs:List ao} {cds:List (Nat×Sl)} {ps:List Pm} {rs:Nat->RR} {qs:Nat->jc}
theorem L6:(prog.info? 101).map (λi=>(i.zero,i.size,i.bytes))=some (some (.agg #[.pointer none,.pointer none]),2,16):=by kernel_rfl
def tV(I:aa)(B:Nat)(h:Nat->Option ao)(W:Nat)(m:Lc)(x:Nat->a7)(ls:List Sl)(j:List ao)(b:List (Nat×Sl))(a:List Pm)(g:Nat->RR)(f:Nat->jc)(e:Nat->Option Nat)(L D:Nat)(d:aa):Prop:=∃c ow2 p r q,ow2 0=e/\LO I B d c ow2 h W m x ls j b a g f (2 *a.length+2)/\Tn B d c (ow2 (2 *a.length+1)) (ow2 (2 *a.length+2)) p r q/\BQ p.z p.vs r q/\p.L=L/\p.D=D/\∀i,2 *(a.length+1)<i->ow2 i=λ_=>none
theorem Bm(h:LW I B w Y ow zb W m x ls zs cds ps rs qs)(hc:(C,fo)∈cds):cl 30 #[Pt C] w (λe w1=>∃L,e=.returned (Pt L)/\LS B w1 (ow 0) zb W m x ls zs/\aB Y w w1/\∀d,Below w1.heap.size w1 d->cl 71 #[.slice fo.a fo.n fo.c] d (λe w2=>∃D,e=.returned (Pt D)/\Below d.heap.size d w2/\tV I B zb W m x ls zs cds ps rs qs (ow 0) L D w2)):=by
 obtain⟨b,z,vs,fx,l⟩:=h.cd _ hc;refine(Ke w B b C Y (dp z vs) l.cc l.co h.fam.xt h.lv.tb h.lv.hB).mono ?_;rintro e w1 ⟨L,A,o1,rfl,_,h1,J,hg⟩;have E:Gw Y (ow (2 *ps.length+1)) w A o1 w1:=by rw[h.no _ (by omega)];exact hg
 have f:=MR.own J;have hO:=h.step E f.1 f.2;have hS:=hO.st (by omega);rw[bg _ _ (by omega)] at hS;refine⟨L,rfl,hS,E.Pj (h.fam.ox _),λd hb=>(FT d fo).mono ?_⟩;have X:Gw A o1 w1 A o1 d:=Gw.aj hb;have P:mu d B A:=λk H=>by
  obtain⟨q1,c,T,Q,q3⟩:=f.2 k H;exact⟨q1,c,T,(hb.block k (ai Q)).trans Q,q3⟩
 have u:Gw Y (ow (2 *ps.length+1)) w A o1 d:=E.trans X;have s:=h.step u f.1 P;have h0:KI w d:=RS.Mg (K:=0) h.fam.xt (h.fam.ox _) u;have F:=l.ak h0 u.upd.size (u.sW (h.fam.ox _));obtain⟨n,cs,mo,q1,Q,q3,q4,q5,q6,q7⟩:=F.fr;rintro e w2 O;have V:Below d.heap.size d w2:=by obtain⟨_,_,_,_,_,_,_,_,_,q⟩:=O;exact q
 obtain⟨D,Y2,o2,rfl,_,y,v⟩:=Kf s.fam.xt s.lv.hB Q q3 q4 q1 q5 q6 q7 O;have e2:iH ow (2 *ps.length+1) o1 (2 *ps.length+2)=λ_=>none:=(bg _ _ (by omega)).trans (h.no _ (by omega));have G:Gw A (iH ow (2 *ps.length+1) o1 (2 *ps.length+2)) d Y2 o2 w2:=by rw[e2];exact v
 have R:=s.step (by omega) G y.own.1 y.own.2;have U:fq o1 o2:=λk H=>by
  cases e:o1 k with
  |none=>exact absurd e H
  |some t=>exact v.o2 k (s.fam.lt (f.1 k t e)) rfl
 have h3:fq (λ_:Nat=>(none:Option Nat)) o1:=λk H=>absurd rfl H;refine⟨D,rfl,V,Y2,_,⟨L,w.heap.size,D,b,w.heap.size,z,vs,fx⟩,.run (gT (dp z vs)),.run (fR fx),by rw[bg _ _ (by omega),bg _ _ (by omega)],R,?_,⟨F6 l.gz.1 l.fa,rfl⟩,rfl,rfl,λi hi=> ?_⟩
 .rw[br,bg _ _ (by omega),br];have h2:MW B w.heap.size d A o1 w.heap.size b (dp z vs) (.run (gT (dp z vs))):=MW.below (r:=.run (gT (dp z vs))) J hb;have Z:KI d w2:=RS.Mg (K:=0) P (ow:=λ_=>none) (λk t e=>by cases e) v;exact⟨(h1.ki (KI.aj hb)).ki Z,h2.other v h3 (λk t e=>by cases e) y.own.2,⟨0,y⟩,U,l.gz⟩
 .rw[bg _ _ (by omega),bg _ _ (by omega)];exact h.no i (by omega)
theorem tV.st{D:Nat}(h:tV I B zb W m x ls zs cds ps rs qs o0 L D w):LS B w o0 zb W m x ls zs:=by
 obtain⟨b,ow2,_,_,_,rfl,a,_⟩:=h;exact a.st (by omega)
theorem tV.hB{D:Nat}(h:tV I B zb W m x ls zs cds ps rs qs o0 L D w):B<=w.heap.size:=by
 obtain⟨b,ow2,_,_,_,_,a,_⟩:=h;exact a.lv.hB
theorem LW.pair(h:LW I B w0 Y0 ow zb W m x ls zs cds ps rs qs)(Q:∀(j:Nat) p,ps[j]? =some p->BQ p.z p.vs (rs j) (qs j)){D:Nat}(R:tV I B zb W m x ls zs cds ps rs qs o0 L D w)(hb:Below w.heap.size w w1){c:Nat}(J:nL w1 B (LT 1) (Lz 1) (m.r 1).w (m.r 1).n (x 1) [Pt L,Pt D] g c w2)(e3:w3=w2.setCell (dq W 1) (.slice (eb g) ((m.r 1).n+1) c)):∃Y' ow' m' x' p v u,LW I B w3 Y' ow' zb W m' x' ls zs cds (ps++[p]) v u/\m'.last=m.last/\(∀(j:Nat) a,(ps++[p])[j]? =some a->BQ a.z a.vs (v j) (u j))/\m'.r 0=m.r 0/\∀k,k<w.heap.size->o0 k=none->w3.heap[k]? =w.heap[k]?:=by
 obtain⟨U,ow2,p,r,q,rfl,t,H,A,rfl,rfl,E⟩:=R;have s:=t.st (by omega);obtain⟨hS,F⟩:=s.push hb 1 (by decide) _ g c J e3 ls zs ((bg _ _ (by decide)).trans s.x2) ((bg _ _ (by decide)).trans s.x3) s.kp w.heap.size hb.size;obtain⟨Y',ow',d,G,y,K⟩:=t.own (by omega) hS F;have f:∀(j:Nat) a,(ps++[p])[j]? =some a->(j=ps.length/\a=p)\/(j≠ps.length/\ps[j]? =some a):=λj a b=>by
  by_cases e:j<ps.length
  .rw[o5 e] at b;exact .inr ⟨by omega,b⟩
  .have P:=(ke.1 b).1;rw[ga,Ix] at P;have:j=ps.length:=by omega
   subst this;rw[SU] at b;cases b;exact .inl ⟨rfl,rfl⟩
 refine⟨Y',ow',{m with r:=iH m.r 1 ⟨eb g,(m.r 1).n+1,c⟩},_,p,iH rs ps.length r,iH qs ps.length q,⟨d.fam,d.lv,by rw[G];exact hS,h.len,(bg _ _ (by decide)).trans h.xc,?_,d.cd,λj a b=> ?_,λi hi=> ?_⟩,rfl,λj a b=> ?_,rfl,λk O e=>F.upd.block k O (λq=>q.elim (λq=>q e) (λq=>by omega))⟩
 .rw[br,h.xm,RN];simp[QC]
 .rcases f j a b with⟨rfl,rfl⟩|⟨l,b⟩
  .rw[y _ (by omega),y _ (by omega),br,br];exact H.other K (t.fam.ap _ _ (by omega)) (t.fam.ap _ _ (by omega)) (t.fam.ox 0) d.fam.xt
  .rw[bg _ _ l,bg _ _ l];exact d.mc j a b (by omega) (by omega)
 .rw[ga,Ix] at hi;rw[y i (by omega)];exact E i hi
 .rcases f j a b with⟨rfl,rfl⟩|⟨l,b⟩
  .rw[br,br];exact A
  .rw[bg _ _ l,bg _ _ l];exact Q j a b
theorem Pi(h:LW I B w Y ow zb W m x ls zs cds ps rs qs)(hq:∀(j:Nat) p,ps[j]? =some p->BQ p.z p.vs (rs j) (qs j))(C:Nat)(fa:a8)(P fc:Nat)(V:(C,Sl.mk fa P fc)∈cds)(c:Nat)(hc:cds.length<=c/\ps.length<=c/\ls.length<=4 *c/\m.last<=c)(hj:c<=10000000):cl 46 #[Pt W,.agg #[Pt C,.slice fa P fc]] w (λe w'=>Dg I B W cds.length (ps.length+1) (c+1) e w'/\xW w Y W 0 w'):=by
 obtain⟨w0,y⟩:∃w0,w0=w.alloc (.cells #[Pt C,.slice fa P fc] 69):=⟨_,rfl⟩;have h0:LW I B w0 Y ow zb W m x ls zs cds ps rs qs:=by rw[y];exact h.below (aR _ _)
 have U:w0.heap[w.heap.size]? =some (.cells #[.pointer (eb C),.slice fa P fc] 69):=by rw[y];exact fK _ _
 have R:¬Y w.heap.size:=λhy=>by have:=h.fam.lt hy;omega
 obtain⟨i0,hi,Z,h3,h4⟩:=sv L6;have HI:=ag (ei hi (ei Z (ei h3 h4)));obtain⟨⟨ra,A,rc⟩,a⟩:∃u,u=m.r 1:=⟨_,rfl⟩;have ht:A<=10000000:=by have:=h.nm;rw[<-a] at this;simp only at this;omega
 have hh:=ai h0.st.lc;have HS:=ag (Bm h0 V);have H0:=ag h0;have H:=ag h;have O:Hid (Below w.heap.size w w0):=by rw[y];exact aR _ _
 have K:=ag U;have he:=ag R;have HQ:=ag hq;have HE:Hid (∀w2 Y' ow' m' x' p d b,LW I B w2 Y' ow' zb W m' x' ls zs cds (ps++[p]) d b->m'.last=m.last->(∀(j:Nat) p',(ps++[p])[j]? =some p'->BQ p'.z p'.vs (d j) (b j))->Dg I B W cds.length (ps.length+1) (c+1) (.returned (.bool true)) w2):=λw2 Y' ow' m' x' p d b h2 e1 e2=>⟨rfl,Y',ow',zb,m',x',ls,zs,cds,ps++[p],d,b,h2,e2,rfl,by simp,by omega,by omega,by omega,by omega⟩;clear h h0 U R hi Z h3 h4 hq hc V;go_enter func46,ntmps46;go_wp2_with fail;rw[<-y];refine HS.out.mono ?_;rintro e w1 ⟨L,rfl,v,Q,F⟩;have d1:Cl w1 w.heap.size 1 (.slice fa P fc):=jh Q K.out he.out 1;have c1:w1.cell? ⟨W,1,none⟩=some (.slice ra A rc):=by rw[ae v.lc];show some (Sl.w (m.r 1))=_;rw[<-a];rfl
 have E:=ai v.lc;have X:w.heap.size<w1.heap.size:=gr (ai K.out) Q.size;have h7:=ag (F w1.drew (fL _ w1).drew);have hf:=ag v;have h8:Hid (∀w3 w2 (m':Lc) ol' x',Below w1.heap.size w1.drew w2->LS B w3 ol' zb W m' x' ls zs->m'.r 0=m.r 0->x' 0=cds.flatMap Pv->(∀k,k<w2.heap.size->ow 0 k=none->w3.heap[k]? =w2.heap[k]?)->xW w Y W 0 w3):=λw3 w2 m' ol' x' hb hl hm hx hs=>xW.of H.out.st hl (by decide) hm (hx.trans H.out.xc.symm) λk hk hn=>by
  have h1:k<w0.heap.size:=gr hk O.out.size;have h2:k<w1.heap.size:=gr h1 Q.size;have e:ow 0 k=none:=by
   cases q:ow 0 k with
   |none=>rfl
   |some t=>exact absurd (H0.out.fam.ox 0 k t q) hn
  rw[hs k (gr h2 hb.size) e,hb.block k h2];exact(Q.block k h1 hn).trans (O.out.block k hk)
 clear Q F v HS;go_wp2_with fail;go_region_law (first|(refine nt rfl ?_;go_simp;go_at_call 71;refine h7.out.mono ?_;rintro e w2 ⟨D,rfl,f,s⟩;have c2:w2.cell? ⟨W,1,none⟩=some (.slice ra A rc):=(f.cell (p:=⟨W,1,none⟩) E).trans c1;have ho:W<w2.heap.size:=gr E f.size;have hp:w.heap.size<w2.heap.size:=gr X f.size;have J:=s.st;have hd:=ag J;have hg:B<=w2.heap.size:=s.hB;have h6:=ag s;have h9:Hid (w2.ownsRow B 101 2 (.slice ra A rc) A (x 1)):=(by have:=J.ro 1 (by decide);rw[<-a] at this;exact this);have h5:=ag f;clear f s J)|(refine nt rfl (KG _ (.tmp 15) (.tmp 21) 24 rfl B 101 i0 (.agg #[.pointer none,.pointer none]) 2 16 underlying24 HI.out.1 HI.out.2.1 HI.out.2.2.1 HI.out.2.2.2 rfl (by decide) (.slice ra A rc) A (x 1) (by simp[Act.eval,Act.put]) (h9.out.alloc _) ⟨w2.heap.size,0,none⟩ 1 [Pt L,Pt D] (by simp[Act.eval,Act.put]) rfl (m9 _ _ _ #[Pt L,Pt D] rfl) (by intro u hu;simp at hu;rcases hu with rfl|rfl<;>rfl) (by unfold maxLen;omega) (by omega) (by simp;omega) ?_);intro g4 c4 w4 ha;have G:nL (w2.alloc (.cells #[Pt L,Pt D] 101)) B (LT 1) (Lz 1) (m.r 1).w (m.r 1).n (x 1) [Pt L,Pt D] g4 c4 w4:=(by rw[<-a];exact ha);have l:=hd.out.stay (aR _ _) (by decide) G;have e1:w4.cell? ⟨W,1,none⟩=some (.slice ra A rc):=(by rw[ae l];show some (Sl.w (m.r 1))=_;rw[<-a];rfl);have f1:=ah l 1;have hr:=ai l;obtain⟨Y',ow',m',x',p,d,b,q1,q2,q3,q4,q5⟩:=H0.out.pair HQ.out h6.out (aR _ _) G (w3:=w4.setCell ⟨W,1,none⟩ (.slice (eb g4) (A+1) c4)) (by rw[<-a]);have HF:=ag (ei (HE.out _ Y' ow' m' x' p d b q1 q2 q3) (h8.out _ w2 _ _ _ h5.out q1.st q4 q1.xc q5));clear ha G l q1 q2 q3 q4 q5))
 all_goals(go_wp2;go_ret;exact HF.out)
variable {I:aa} {B:Nat} {w w':aa} {Y Y':a9} {ow:Nat->Nat->Option Nat} {zb:Nat->Option ao} {W:Nat} {m:Lc} {x:Nat->a7} {ls:List Sl} {zs:List ao} {cds:List (Nat×Sl)} {ps:List Pm} {rs:Nat->RR} {qs:Nat->jc}
def Ew(I:aa)(B W c:Nat)(e:bo)(w':aa):Prop:=∃nc nm,Dg I B W nc nm c e w'
def OpV(k oc om n:Int)(os:ao):bc:= #[.int .i64 k,.int .i64 oc,.int .i64 om,.int .i64 n,.string os]
theorem jo{f:α->a7}(hf:∀a,(f a).length=2):∀(l:List α) (i:Nat) (a:α),l[i]? =some a->∀j,j<2->(l.flatMap f)[2 *i+j]? =(f a)[j]?
 |[],i,a,h,_,_=>by simp at h
 |b::l,0,a,h,j,d=>by
  simp at h;subst h;rw[Ps,o5 (by rw[hf];omega),show 2 *0+j=j by omega]
 |b::l,i+1,a,h,j,d=>by
  rw[Ps,s7 (by rw[hf];omega),hf,show 2 *(i+1)+j-2=2 *i+j by omega];exact jo hf l i a (by simpa using h) j d
theorem LS.cell(h:LS B w ol zb W m x ls zs)(hi:i<4)(b:0<(m.r i).n):∃g,(m.r i).a=eb g/\∀(j:Nat) u,(x i)[j]? =some u->Cl w g j u:=by
 obtain⟨a,c,e,_,_,q⟩:=ay (h.ro i hi);obtain⟨g,rfl,_,_,q⟩:=q b;exact⟨g,(SM (show Value.slice (m.r i).a (m.r i).n (m.r i).c=_ from e)).1,q⟩
theorem Nr{nc nm c:Nat}(d:AL I B W nc nm c w)(oc om n:Int)(os:ao)(a:os.size<=maxLen)(f:c<=10000000):cl 34 #[Pt W,.agg (OpV 1 oc om n os)] w (Ew I B W (c+1)):=by
 obtain⟨Y,ow,zb,m,x,ls,zs,cds,ps,rs,qs,h,r,rfl,rfl,q⟩:=d;obtain⟨w0,b⟩:∃w0,w0=w.alloc (.cells (OpV 1 oc om n os) 32):=⟨_,rfl⟩;have l:LW I B w0 Y ow zb W m x ls zs cds ps rs qs:=by rw[b];exact h.below (aR _ _)
 have k:=ag (OB l r os a c q f);clear h l r q a;unfold OpV at *;go_enter func34,ntmps34;go_wp2_with fail;rw[<-b];refine k.out.mono ?_;rintro e w1 ⟨nc,rfl,d⟩;have s:=ag d;clear d k;go_wp2;go_ret;exact⟨nc,ps.length,rfl,s.out⟩
theorem Ns{nc nm c:Nat}(P:AL I B W nc nm c w)(oc om n:Int)(os:ao)(D: -9223372036854775808<=oc/\oc<=9223372036854775807)(Z:c<=10000000):cl 34 #[Pt W,.agg (OpV 2 oc om n os)] w (Ew I B W (c+1)):=by
 obtain⟨Y,ow,zb,m,x,ls,zs,cds,ps,rs,qs,h,Q,rfl,rfl,X⟩:=P;obtain⟨w0,s⟩:∃w0,w0=w.alloc (.cells (OpV 2 oc om n os) 32):=⟨_,rfl⟩;have v:LW I B w0 Y ow zb W m x ls zs cds ps rs qs:=by rw[s];exact h.below (aR _ _)
 have J:LW I B w0.drew Y ow zb W m x ls zs cds ps rs qs:=v.below (fL _ w0).drew;obtain⟨⟨ra,l,rc⟩,y⟩:∃u,u=m.r 0:=⟨_,rfl⟩;have c0:w0.cell? (dq W 0)=some (.slice ra l rc):=by rw[ae v.st.lc];show some (Sl.w (m.r 0))=_;rw[<-y];rfl
 have h3:=ai v.st.lc;have O:l=cds.length:=by have:=v.nc;rw[<-y] at this;exact this
 have b1:w0.cell? (dq w.heap.size 1)=some (Jn oc):=by rw[s];exact(ae (fK w _) 1).trans rfl
 have HE:Hid (Ew I B W (c+1) (.returned (.bool true)) w0.drew):=⟨_,_,rfl,Y,ow,zb,m,x,ls,zs,cds,ps,rs,qs,J,Q,rfl,rfl,by omega,by omega,by omega,by omega⟩;by_cases hz:cds.length=0
 .have h1:l=0:=by omega
  subst h1;clear h v J Q X O;unfold OpV at *;go_enter func34,ntmps34;go_wp2;rw[<-s];clear s;go_region;go_wp2;go_ret;exact HE.out
 .have A:0<l:=by omega
  obtain⟨g,hg,b⟩:=v.st.cell (i:=0) (by decide) (by rw[<-y];exact A);rw[<-y] at hg;obtain rfl:ra=eb g:=hg;have h2:g<w0.heap.size:=by
   have:=b 0 (Pt (cds[0]'(by omega)).1) (by rw[v.xc];exact jo (f:=Pv) (λ_=>rfl) cds 0 _ (fA (by omega)) 0 (by omega));exact ir this
  obtain⟨F,E,H,G,V⟩:∃(F:Nat->Nat) (E:Nat->a8) (H G:Nat->Nat),Hid (∀k:Nat,k<l->cds[k]? =some (F k,Sl.mk (E k) (H k) (G k))):=⟨λk=>((cds[k]?).getD (0,⟨none,0,0⟩)).1,λk=>((cds[k]?).getD (0,⟨none,0,0⟩)).2.a,λk=>((cds[k]?).getD (0,⟨none,0,0⟩)).2.n,λk=>((cds[k]?).getD (0,⟨none,0,0⟩)).2.c,λk t=>by
   obtain⟨d,J⟩:∃d,cds[k]? =some d:=⟨_,fA (by omega)⟩;simp only[J];rfl⟩
  have q:=λk (t:k<l) j hj=>jo (f:=Pv) (λ_=>rfl) cds k _ (V.out k t) j hj;rw[<-v.xc] at q;have s0:∀k:Nat,k<l->Cl w0 g (k *2) (Pt (F k)):=λk t=>b (k *2) _ (by have:=q k t 0 (by omega);rw[show 2 *k+0=k *2 by omega] at this;exact this);have s1:∀k:Nat,k<l->Cl w0 g (k *2+1) (.slice (E k) (H k) (G k)):=λk t=>b (k *2+1) _ (by have:=q k t 1 (by omega);rw[show 2 *k+1=k *2+1 by omega] at this;exact this);have U:Hid (∀k:Nat,k<l->cl 46 #[Pt W,.agg #[Pt (F k),.slice (E k) (H k) (G k)]] w0.drew (λe w'=>Dg I B W cds.length (ps.length+1) (c+1) e w'/\xW w0.drew Y W 0 w')):=λk t=>Pi J Q _ _ _ _ (Sw (V.out k t)) c X Z;have HP:=ag (D0 w0.drew oc l A D.1 D.2);have HN:Hid (¬Y w.heap.size/\w.heap.size<w0.heap.size):=⟨λhy=>by have:=h.fam.lt hy;omega,by rw[s];simp⟩;have h5:((l:Int)==0)=false:=by simp;omega
  clear h v J Q X O HE b D q V;unfold OpV at *;go_enter func34,ntmps34;go_wp2;rw[<-s];clear s;go_region_held3 (λR=>Cl R W 0 (.slice (eb g) l rc)/\Cl R w.heap.size 1 (Jn oc)/\(∀k:Nat,k<l->Cl R g (k *2) (Pt (F k)))/\∀k:Nat,k<l->Cl R g (k *2+1) (.slice (E k) (H k) (G k))) (first|assumption|exact⟨c0,b1,s0,s1⟩) (first|(go_at_call 47;refine HP.out.mono ?_;rintro e w' ⟨k,t,rfl,rfl⟩)|(go_at_call 46;refine(U.out _ (by assumption)).mono ?_;rintro e w2 ⟨⟨rfl,P⟩,K⟩;have HA:=ag P;have h4:Cl w2 W 0 (.slice (eb g) l rc)/\Cl w2 w.heap.size 1 (Jn oc)/\(∀k:Nat,k<l->Cl w2 g (k *2) (Pt (F k)))/\∀k:Nat,k<l->Cl w2 g (k *2+1) (.slice (E k) (H k) (G k)):=⟨K.2.1.trans c0,(xo (a:=(dq w.heap.size 1)) (K.1 _ HN.out.2 HN.out.1)).trans b1,λk t=>(K.2.2 _ _ _ c0 _ (by omega)).trans (s0 k t),λk t=>(K.2.2 _ _ _ c0 _ (by omega)).trans (s1 k t)⟩;clear P K))
  all_goals(go_wp2;go_ret;exact⟨_,_,rfl,HA.out⟩)
theorem Dr(h:LW I B w Y ow zb W m x ls zs cds ps rs qs)(b:∀(j:Nat) p,ps[j]? =some p->BQ p.z p.vs (rs j) (qs j))(f:ps[j]? =some p)(k oc om n:Int)(os:ao)(c:Nat)(a:cds.length<=c/\ps.length<=c/\ls.length<=4 *c/\m.last<=c)(d:c<=10000000):cl 48 #[Pt W,.agg #[Pt p.L,Pt p.D],.agg #[Jn k,Jn oc,Jn om,Jn n,.string os]] w (λe w'=>Dg I B W cds.length ps.length (c+1) e w'/\xW w Y W 1 w'):=by
 by_cases h3:k=3
 .subst h3;exact Lq h b f oc om n os c a
 .by_cases l:k=4
  .subst l;exact G6 h b f oc om n os c a
  .by_cases q:k=5
   .subst q;exact Lp h b f oc om n os c a d
   .exact G7 h b p k oc om n os c a h3 l q
theorem Nq{nc nm c:Nat}(X:AL I B W nc nm c w)(k oc om n:Int)(os:ao)(h1:¬k=1)(h2:¬k=2)(O: -9223372036854775808<=om/\om<=9223372036854775807)(h7:c<=10000000):cl 34 #[Pt W,.agg (OpV k oc om n os)] w (Ew I B W (c+1)):=by
 obtain⟨Y,ow,zb,m,x,ls,zs,cds,ps,rs,qs,h,Z,rfl,rfl,hc⟩:=X;obtain⟨w0,y⟩:∃w0,w0=w.alloc (.cells (OpV k oc om n os) 32):=⟨_,rfl⟩;have G:LW I B w0 Y ow zb W m x ls zs cds ps rs qs:=by rw[y];exact h.below (aR _ _)
 have P:LW I B w0.drew Y ow zb W m x ls zs cds ps rs qs:=G.below (fL _ w0).drew;obtain⟨⟨ra,b,rc⟩,F⟩:∃u,u=m.r 1:=⟨_,rfl⟩;have c0:w0.cell? (dq W 1)=some (.slice ra b rc):=by rw[ae G.st.lc];show some (Sl.w (m.r 1))=_;rw[<-F];rfl
 have h6:=ai G.st.lc;have Q:b=ps.length:=by have:=G.nm;rw[<-F] at this;exact this
 have t:w0.heap[w.heap.size]? =some (.cells (OpV k oc om n os) 32):=by rw[y];exact fK _ _
 have b0:=kd t 0 (Jn k);have HE:Hid (Ew I B W (c+1) (.returned (.bool true)) w0):=⟨_,_,rfl,Y,ow,zb,m,x,ls,zs,cds,ps,rs,qs,G,Z,rfl,rfl,by omega,by omega,by omega,by omega⟩;have cw:w.cell? (dq W 1)=some (.slice ra b rc):=by rw[ae h.st.lc];show some (Sl.w (m.r 1))=_;rw[<-F];rfl
 have ha:=ai h.st.lc;by_cases hz:ps.length=0
 .have h8:b=0:=by omega
  subst h8;clear h G P Z hc Q c0 b0 t h6;unfold OpV at *;go_enter func34,ntmps34;go_wp2;rw[<-y];go_ret;exact HE.out
 .have E:0<b:=by omega
  obtain⟨g,hg,s⟩:=G.st.cell (i:=1) (by decide) (by rw[<-F];exact E);rw[<-F] at hg;obtain rfl:ra=eb g:=hg;obtain⟨V,HF⟩:∃V:Nat->Pm,Hid (∀k:Nat,k<b->ps[k]? =some (V k)):=⟨λk=>(ps[k]?).getD (ps[0]'(by omega)),λk A=>by
   obtain⟨d,P⟩:∃d,ps[k]? =some d:=⟨_,fA (by omega)⟩;simp only[P];rfl⟩
  obtain⟨U,K⟩:∃f:Nat->Nat,f=λk=>(V k).L:=⟨_,rfl⟩;obtain⟨R,J⟩:∃f:Nat->Nat,f=λk=>(V k).D:=⟨_,rfl⟩;have q:=λk (A:k<b) j hj=>jo (f:=QC) (λ_=>rfl) ps k _ (HF.out k A) j hj;rw[<-G.xm] at q;have s0:∀k:Nat,k<b->Cl w0 g (k *2) (Pt (U k)):=λk A=>s (k *2) _ (by have:=q k A 0 (by omega);rw[show 2 *k+0=k *2 by omega] at this;rw[K];exact this);have s1:∀k:Nat,k<b->Cl w0 g (k *2+1) (Pt (R k)):=λk A=>s (k *2+1) _ (by have:=q k A 1 (by omega);rw[show 2 *k+1=k *2+1 by omega] at this;rw[J];exact this);have h9:g<w0.heap.size:=ir (s0 0 E);have h3:Hid (∀j:Nat,j<b->cl 48 #[Pt W,.agg #[Pt (U j),Pt (R j)],.agg #[Jn k,Jn oc,Jn om,Jn n,.string os]] w0.drew (λe w'=>Dg I B W cds.length ps.length (c+1) e w'/\xW w0.drew Y W 1 w')):=λj hj=>by rw[K,J];exact Dr P Z (HF.out j hj) k oc om n os c hc h7
  have HP:=ag (D0 w0.drew om b E O.1 O.2);have HN:Hid (¬Y w.heap.size/\w.heap.size<w0.heap.size):=⟨λhy=>by have:=h.fam.lt hy;omega,by rw[y];simp⟩;have hf:((b:Int)==0)=false:=by simp;omega
  have b1:=kd t 1 (Jn oc);have b2:=kd t 2 (Jn om);have b3:=kd t 3 (Jn n);have b4:=kd t 4 (.string os);obtain⟨S,hS⟩:∃S:aa->Prop,S=λl=>Cl l W 1 (.slice (eb g) b rc)/\Cl l w.heap.size 0 (Jn k)/\Cl l w.heap.size 1 (Jn oc)/\Cl l w.heap.size 2 (Jn om)/\Cl l w.heap.size 3 (Jn n)/\Cl l w.heap.size 4 (.string os)/\(∀k:Nat,k<b->Cl l g (k *2) (Pt (U k)))/\∀k:Nat,k<b->Cl l g (k *2+1) (Pt (R k)):=⟨_,rfl⟩;have h4:Hid (S w0.drew):=by rw[hS];exact⟨c0,b0,b1,b2,b3,b4,s0,s1⟩
  have h5:Hid (∀w2,xW w0.drew Y W 1 w2->S w2):=λw2 H=>by
   have hb:=λi v (e:Cl w0 w.heap.size i v)=>(xo (a:=(dq w.heap.size i)) (H.1 _ HN.out.2 HN.out.1)).trans e;rw[hS];exact⟨H.2.1.trans c0,hb _ _ b0,hb _ _ b1,hb _ _ b2,hb _ _ b3,hb _ _ b4,λk A=>(H.2.2 _ _ _ c0 _ (by omega)).trans (s0 k A),λk A=>(H.2.2 _ _ _ c0 _ (by omega)).trans (s1 k A)⟩
  clear h G P Z hc Q HE s O q HF K J;unfold OpV at *;go_enter func34,ntmps34;go_wp2;rw[<-y];clear y;subst hS;go_region_held3 (λl=>Cl l W 1 (.slice (eb g) b rc)/\Cl l w.heap.size 0 (Jn k)/\Cl l w.heap.size 1 (Jn oc)/\Cl l w.heap.size 2 (Jn om)/\Cl l w.heap.size 3 (Jn n)/\Cl l w.heap.size 4 (.string os)/\(∀k:Nat,k<b->Cl l g (k *2) (Pt (U k)))/\∀k:Nat,k<b->Cl l g (k *2+1) (Pt (R k))) (first|exact h4.out|assumption) (first|(go_at_call 47;refine HP.out.mono ?_;rintro e w' ⟨k,A,rfl,rfl⟩)|(go_at_call 48;refine(h3.out _ (by assumption)).mono ?_;rintro e w2 ⟨⟨rfl,X⟩,H⟩;have HA:=ag X;have he:=h5.out w2 H;clear X H))
  all_goals(go_wp2;go_ret;exact⟨_,_,rfl,HA.out⟩)
variable {I:aa} {B:Nat} {w w':aa} {W nc nm c:Nat}
theorem AL.bel(h:AL I B W nc nm c w):Below B I w:=by
 obtain⟨Y,ow,zb,m,x,ls,zs,cds,ps,rs,qs,h,_⟩:=h;exact h.lv.bb
theorem AL.below(h:AL I B W nc nm c w)(hb:Below w.heap.size w w'):AL I B W nc nm c w':=by
 obtain⟨Y,ow,zb,m,x,ls,zs,cds,ps,rs,qs,h,a⟩:=h;exact⟨Y,ow,zb,m,x,ls,zs,cds,ps,rs,qs,h.below hb,a⟩
theorem AL.kept(h:AL I B W nc nm c w)(q:c<=10000000):cl 35 #[Pt W] w (Dg I B W nc nm c):=by
 obtain⟨Y,ow,zb,m,x,ls,zs,cds,ps,rs,qs,h,b,a,e2,d,f,k,l⟩:=id h;refine(DS h (by omega)).mono ?_;rintro e w' ⟨rfl,hb⟩;exact⟨rfl,AL.below ⟨Y,ow,zb,m,x,ls,zs,cds,ps,rs,qs,h,b,a,e2,d,f,k,l⟩ hb⟩
theorem AL.row(h:AL I B W nc nm c w):∃d e,w.cell? ⟨W,1,none⟩=some (.slice d nm e)/\W<w.heap.size/\nm<=c:=by
 obtain⟨Y,ow,zb,m,x,ls,zs,cds,ps,rs,qs,h,k,f,e2,l,b,q,s⟩:=h;refine⟨(m.r 1).a,(m.r 1).c,?_,ai h.st.lc,b⟩;rw[ae h.st.lc,<-e2,<-h.nm];rfl
theorem AL.I3(h:AL I B W nc nm c w)(s:j<nm)(b:c<=10000000):∃g u L D,w.cell? ⟨W,1,none⟩=some (.slice (eb g) nm u)/\W<w.heap.size/\w.cell? ⟨g,j *2,none⟩=some (Pt L)/\w.cell? ⟨g,j *2+1,none⟩=some (Pt D)/\∀k,cl 48 #[Pt W,.agg #[Pt L,Pt D],.agg #[Jn k,Jn 0,Jn 0,Jn 0,.string ⟨#[]⟩]] w (Dg I B W nc nm (c+1)):=by
 obtain⟨Y,ow,zb,m,x,ls,zs,cds,ps,rs,qs,h,t,rfl,rfl,d⟩:=h;obtain⟨g,l,a⟩:=h.st.cell (i:=1) (by decide) (by rw[h.nm];omega);obtain⟨p,hp⟩:∃p,ps[j]? =some p:=⟨_,fA s⟩;have q:=λi hi=>jo (f:=QC) (λ_=>rfl) ps j _ hp i hi;rw[<-h.xm] at q;refine⟨g,(m.r 1).c,p.L,p.D,?_,ai h.st.lc,a (j *2) _ (by have:=q 0 (by omega);rw[show 2 *j+0=j *2 by omega] at this;exact this),a (j *2+1) _ (by have:=q 1 (by omega);rw[show 2 *j+1=j *2+1 by omega] at this;exact this),λk=>(Dr h t hp k 0 0 0 ⟨#[]⟩ c d b).mono λe w' q=>q.1⟩;rw[ae h.st.lc,<-h.nm,<-l];rfl
def KT(I:aa)(B:Nat)(e:bo)(w':aa):Prop:=e=.returned (.bool true)/\Below B I w'
theorem Ij(h:AL I B W nc nm c w)(Z:3 *c<=9999999):cl 36 #[Pt W] w (KT I B):=by
 have O:nm<=c:=by obtain⟨_,_,_,_,q⟩:=h.row;exact q
 have F:=ag h;clear h;go_enter func36,ntmps36;go_wp2
 go_loopw [3,4,5] (λi _ _ wr=>∃j:Nat,j<=nm/\i=Jn j/\AL I B W nc nm (c+2 *j) wr) (λi _ _ _=>nm-(intOf i).toNat)
 case atStart=>exact⟨0,kc _,rfl,F.out⟩
 case round=>
  obtain⟨j,hj,rfl,l⟩:=hrel;by_cases hlt:j<nm
  .obtain⟨g,P,L,D,c1,G,A,R,d⟩:=l.I3 hlt (by omega);have hg:=ir A;have f:=ag (d 4);have K:(j:Int)<(nm:Int):=by omega
   clear l d;go_wp2_with fail;refine f.out.mono ?_;rintro e w1 ⟨rfl,a⟩;obtain⟨X,Q,V,U,u,H,s,y,b⟩:=a.I3 hlt (by omega);have J:=ir s;have k:=ag (b 5);clear a b f c1 A R;go_wp2_with fail;refine k.out.mono ?_;rintro e w2 ⟨rfl,r⟩;have t:=ag r;clear r k u s y;go_wp2;go_roundw
   case rel=>exact⟨j+1,by omega,rfl,t.out⟩
   case measure=>simp[intOf];omega
  .have v:j=nm:=by omega
   subst v;obtain⟨ra,P,c1,G,_⟩:=l.row;have f:=ag (l.kept (by omega));clear l;go_wp2_with fail;refine f.out.mono ?_;rintro e w1 ⟨rfl,a⟩;have E:=ag a.bel;clear a f c1;go_wp2;go_ret;exact⟨rfl,E.out⟩
structure Opr where
 k:Int
 oc:Int
 om:Int
 n:Int
 s:ao
def Opr.ok(o:Opr):Prop:=(-9223372036854775808<=o.oc/\o.oc<=9223372036854775807)/\(-9223372036854775808<=o.om/\o.om<=9223372036854775807)/\o.s.size<=maxLen
theorem Ph(h:AL I B W nc nm c w)(o:Opr)(ho:o.ok)(a:c<=10000000):cl 34 #[Pt W,.agg (OpV o.k o.oc o.om o.n o.s)] w (Ew I B W (c+1)):=by
 obtain⟨k,oc,om,n,s⟩:=o;obtain⟨h1,h2,h3⟩:=ho;by_cases b:k=1
 .subst b;exact Nr h oc om n s h3 a
 .by_cases e2:k=2
  .subst e2;exact Ns h oc om n s h1 a
  .exact Nq h k oc om n s b e2 h2 a
def ScrAt(w:aa)(a:a8)(l:List Opr):Prop:=∀(i:Nat) o,l[i]? =some o->o.ok/\∃b f,a=some ⟨b,f,none⟩/\∀j u,(OpV o.k o.oc o.om o.n o.s)[j]? =some u->w.cell? ⟨b,f+i *5+j,none⟩=some u
theorem Of(w:aa)(hm:MaxOk w)(r:Tab w.heap.size w)(d:ErrT w):AL w w.heap.size w.heap.size 0 0 0 (w.alloc (.cells #[.slice none 0 0,.slice none 0 0,.slice none 0 0,.slice none 0 0,Jn 0] 28)):=by
 have hb:Below w.heap.size w (w.alloc (.cells #[.slice none 0 0,.slice none 0 0,.slice none 0 0,.slice none 0 0,Jn 0] 28)):=aR _ _;have b:mA (w.alloc (.cells #[.slice none 0 0,.slice none 0 0,.slice none 0 0,.slice none 0 0,Jn 0] 28)) w.heap.size ⟨λ_=>⟨none,0,0⟩,0⟩:=fK _ _;refine⟨λk=>k=w.heap.size,λi k=>if i=0/\k=w.heap.size then some 0 else none,λ_=>none,⟨λ_=>⟨none,0,0⟩,0⟩,λ_=>[],[],[],[],[],λ_=>.done [] [],λ_=>.done [] [],⟨⟨λi k t h=> ?_,λk a=> ?_,λi j l k a=> ?_⟩,⟨hm.below hb hm.lt,r.below hb,d.below hb d.lt,hm.lt,d.lt,hb.size,hb⟩,⟨b,by simp,λk a=> ?_,λi _=>oh _ _ _ _,λi _ k a=>(by cases a),rfl,rfl,λi u z h=>(by simp at h),λk z h=>(by cases h),Tc _⟩,rfl,rfl,rfl,λc f=>(by simp at f),λj p h=>(by simp at h),λi hi=> ?_⟩,λj p h=>(by simp at h),rfl,rfl,ew _,ew _,ew _,Tc _⟩
 .split at h
  .rename_i q;exact q.2
  .cases h
 .have a:k=w.heap.size:=a;subst a;exact⟨ew _,_,_,b,by decide⟩
 .split at a
  .rename_i q;rw[fb];intro s;omega
  .exact absurd rfl a
 .by_cases e:k=w.heap.size
  .subst e;exact⟨ew _,_,_,b,by decide⟩
  .simp[e] at a
 .funext k
  rw[fb];intro q;simp at hi;omega
theorem D1(w:aa)(hm:MaxOk w)(Q:Tab w.heap.size w)(O:ErrT w)(a:a8)(A:Nat)(l:List Opr)(hl:l.length<=3300000)(P:ScrAt w a l):cl 16 #[.slice a l.length A] w (KT w w.heap.size):=by
 have U:=ag (Of w hm Q O);have X:=ag P;clear hm Q O P;go_enter func16,ntmps16;go_wp2
 go_loopw [4,5,6] (λi _ _ wr=>∃j:Nat,j<=l.length/\i=Jn j/\∃nc nm,AL w w.heap.size w.heap.size nc nm j wr) (λi _ _ _=>l.length-(intOf i).toNat)
 case atStart=>exact⟨0,kc _,rfl,0,0,U.out⟩
 case round=>
  obtain⟨j,hj,rfl,nc,nm,d⟩:=hrel;by_cases hlt:j<l.length
  .obtain⟨⟨k,oc,om,n,s⟩,ho⟩:∃o,l[j]? =some o:=⟨_,fA hlt⟩;obtain⟨F,b,f,rfl,D⟩:=X.out j _ ho;have t:=d.bel;have q:=λi u R=>(t.cell (p:=(dq b (f+j *5+i))) (ir (D i u R))).trans (D i u R);have q0:Cl wr b (f+j *5) (Jn k):=q 0 _ rfl;have q1:Cl wr b (f+j *5+1) (Jn oc):=q 1 _ rfl;have q2:Cl wr b (f+j *5+2) (Jn om):=q 2 _ rfl;have q3:Cl wr b (f+j *5+3) (Jn n):=q 3 _ rfl;have q4:Cl wr b (f+j *5+4) (.string s):=q 4 _ rfl;have v:=ag (Ph d ⟨k,oc,om,n,s⟩ F (by omega));have Z:(j:Int)<(l.length:Int):=by omega
   unfold OpV at v;simp only at v;clear d t q D ho;go_wp2_with fail;refine v.out.mono ?_;rintro e w1 ⟨G,H,rfl,h⟩;have K:=ag (h.kept (by omega));clear h v q0 q1 q2 q3 q4;go_wp2_with fail;refine K.out.mono ?_;rintro e w2 ⟨rfl,r⟩;have y:=ag r;clear r K;go_wp2;go_roundw
   case rel=>exact⟨j+1,by omega,rfl,G,H,y.out⟩
   case measure=>simp[intOf];omega
  .have E:j=l.length:=by omega
   subst E;have J:=ag (Ij d (by omega));clear d;go_wp2_with fail;refine J.out.mono ?_;rintro e w1 ⟨rfl,hb⟩;have V:=ag hb;clear hb J;go_wp2;go_ret;exact⟨rfl,V.out⟩
theorem All_go(w:aa)(hm:MaxOk w)(k:Tab w.heap.size w)(f:ErrT w)(a:a8)(b:Nat)(l:List Opr)(r:l.length<=3300000)(h:ScrAt w a l):cl 14 #[.slice a l.length b] w (KT w w.heap.size):=by
 have d:=ag (D1 w hm k f a b l r h);clear hm k f h;go_enter func14,ntmps14;go_wp2_with fail;refine d.out.mono ?_;rintro e w1 ⟨rfl,hb⟩;have q:=ag hb;clear hb d;go_wp2;go_ret;exact⟨rfl,q.out⟩
end Go.Proofs.YtlobegpjenabaaaGreatDoor
