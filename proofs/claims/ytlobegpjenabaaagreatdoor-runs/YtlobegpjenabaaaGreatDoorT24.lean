import Derived.Test.YtlobegpjenabaaaGreatDoorT23
namespace Go.Proofs.YtlobegpjenabaaaGreatDoor
open Go.RowKit Tryz
set_option linter.unusedSimpArgs false
set_option linter.unusedVariables false
set_option linter.defProp false
set_option maxRecDepth 100000
set_option maxHeartbeats 4000000
def PS:=@Nat.one_mul
variable {Y:a9} {u:Sl} {cs vcs:List Vc} {i M g B gl ol j:Nat} {x a:Vc} {m:Rm} {k:Kc} {f:Fc} {ns:List au} {s:au} {w' W:aa} {mo:Nat->Option Nat} {v':V}
theorem JV(w:aa)(mo:Nat->Option Nat)(M:Nat)(m:Rm)(v:V)(h:aI w M m)(q:m.ch=none)(r:RX w mo v m.v)(hf:0<=m.form/\m.form<=1000):cl 112 #[Pt M] w (MU w M {m with last:=⟨((bK v).take 100).toArray⟩,form:=m.form+1,mode:=0}):=by
 have D:=h.lt;have k1:=kd h 1 (Jn m.form);have G:=kd h 5 (Jn m.v.k);have k6:=kd h 6 (Jn m.v.n);have H:=kd h 7 (.string m.v.s);have I:=kd h 8 (.pointer m.v.p);have J:=kd h 9 (.pointer m.v.f);have k11:w.cell? (dq M 11)=some (.pointer none):=by rw[<-q];exact h.cell 11
 have d:=ag (Aq w mo v m.v r);have t:=ag h;have A:=hf.1;have C:=hf.2;unfold Vc.c at d;clear h r hf q;obtain⟨z,l⟩:∃z:ao,z=⟨((bK v).take 100).toArray⟩:=⟨_,rfl⟩;rw[<-l];have F:=ag l;unfold PY at d;rw[<-l] at d;clear l;go_enter func112,ntmps112;go_wp2_with fail;refine d.out.mono ?_;rintro e w1 ⟨rfl,hb⟩;have b:aI w1 M m:=(hb.block M D).trans t.out;have K:=kd b 1 (Jn m.form);have L:=kd b 4 (Jn m.mode);have q16:=kd b 16 (.string m.last);have N:=b.fz;have o:=ag b;have y:=ag (TW (λk=>k=M) hb);have E:=b.lt;clear hb b d;go_wp2;refine TT ?_;exact⟨rfl,bE (TH (TH (TH o.out))) (by kernel_rfl),y.out.aY.aY.aY⟩
theorem cT{w:aa}(h:LR w Y u cs)(d:Y M)(hi:cs[i]? =some x):∃gl ol,u.a=some (dq gl ol)/\gl<w.heap.size/\gl≠M/\∀b,aB (λk=>k=M) w b->Cl b gl (ol+i *5) (Jn x.k)/\Cl b gl (ol+i *5+1) (Jn x.n)/\Cl b gl (ol+i *5+2) (.string x.s)/\Cl b gl (ol+i *5+3) (.pointer x.p)/\Cl b gl (ol+i *5+4) (.pointer x.f):=by
 obtain⟨gl,ol,h1,h2,h3,q,l1,l2,l3,r⟩:=h.at hi;have c:gl≠M:=λe=>h3 (e▸d);refine⟨gl,ol,h1,h2,c,λb l=> ?_⟩;have e:∀(o:Nat),b.cell? (dq gl o)=w.cell? (dq gl o):=λo=>xo (a:=(dq gl o)) (l.block gl h2 c);exact⟨(e _).trans q,(e _).trans l1,(e _).trans l2,(e _).trans l3,(e _).trans r⟩
theorem kM{w:aa}(h:aI w M m)(b:di w g k):g≠M:=bB b h (by decide)
theorem eK{w:aa}(h:aI w M m)(b:di w g k)(c:aa)(d:aB (λk=>k=M) w c):di c g k:=d.at b (kM h b)
theorem FW(w:aa)(Y:a9)(M g:Nat)(m:Rm)(k:Kc)(cs:List Vc)(x:Vc)(h:aI w M m)(R:m.ch=eb g)(r:di w g k)(z:k.kind=1)(N:LR w Y k.l cs)(O:cs[2]? =some x)(hY:Y M)(hk:(m.v.k==2)=false):cl 112 #[Pt M] w (MU w M {m with ch:=k.next,mode:=1,v:=x,fr:=k.fr}):=by
 have Z:=h.lt;have h1:=ai r;have h0:=kM h r;have k11:w.cell? (dq M 11)=some (.pointer (eb g)):=by rw[<-R];exact h.cell 11
 have c0:w.cell? (dq g 0)=some (Jn 1):=by rw[<-z];exact ae r 0
 have c6:=kd r 6 (.pointer k.next);have hf:=h.fz;obtain⟨W,J⟩:∃W,W=w.setCell (dq M 11) (.pointer k.next):=⟨_,rfl⟩;have b:aI W M {m with ch:=k.next}:=by rw[J];exact bE (TH h) (by kernel_rfl)
 have o:aB (λk=>k=M) w W:=by rw[J];exact(TU _ _).aY
 have t:di W g k:=eK h r W o;have d0:W.cell? (dq g 0)=some (Jn 1):=by rw[<-z];exact ae t 0
 have X:=ag J;have HH:=ag (ei h (ei b (ei o (ei t r))));obtain⟨gl,ol,H,T,S,d⟩:=cT N hY O;have h4:=(ke.1 O).1;have I:k.l.n=cs.length:=N.1;have p5:=kd b 5 (Jn m.v.k);have p6:=kd b 6 (Jn m.v.n);have C:Hid (∀q,aB (λk=>k=M) w q->Cl q g 2 (.slice (some (dq gl ol)) cs.length k.l.c)/\Cl q g 5 (.pointer k.fr)/\Cl q gl (ol+10) (Jn x.k)/\Cl q gl (ol+10+1) (Jn x.n)/\Cl q gl (ol+10+2) (.string x.s)/\Cl q gl (ol+10+3) (.pointer x.p)/\Cl q gl (ol+10+4) (.pointer x.f)):=λq U=>by
  have F:=eK h r q U;obtain⟨K,l1,l2,l3,L⟩:=d q U;refine⟨?_,ae F 5,K,l1,l2,l3,L⟩;rw[<-H,<-I];exact ae F 2
 have V:=ag (ij W.drew M {m with ch:=k.next} x k.fr b);obtain⟨P,Q,K,l1,l2,l3,L⟩:=C.out W o;have E:=ag o
 skip
 have h2:((2:Nat):Int)<(cs.length:Int):=by omega
 have h3:(2:Int)<(cs.length:Int):=by omega
 clear h r N O R b o t d H I z J;go_enter func112,ntmps112;go_wp2_with (first|(rw[<-X.out]));go_region_held3 (λA=>Cl A g 2 (.slice (some (dq gl ol)) cs.length k.l.c)/\Cl A g 5 (.pointer k.fr)/\Cl A gl (ol+10) (Jn x.k)/\Cl A gl (ol+10+1) (Jn x.n)/\Cl A gl (ol+10+2) (.string x.s)/\Cl A gl (ol+10+3) (.pointer x.p)/\Cl A gl (ol+10+4) (.pointer x.f)) (first|(exact⟨P,Q,K,l1,l2,l3,L⟩)|go_keep) (first|(go_at_call 110;refine V.out.mono ?_;rintro e w9 ⟨rfl,G,y⟩;obtain⟨P,Q,K,l1,l2,l3,L⟩:=C.out w9 (E.out.drew.trans y (λ_ _ h=>h));have D:=ag (ei G y);clear G y))
 all_goals
  go_wp2;refine TT ?_;exact⟨rfl,D.out.1,E.out.drew.trans D.out.2 (λ_ _ h=>h)⟩
theorem FX(w:aa)(Y:a9)(M g:Nat)(m:Rm)(k:Kc)(cs:List Vc)(x:Vc)(h:aI w M m)(R:m.ch=eb g)(r:di w g k)(z:k.kind=1)(N:LR w Y k.l cs)(O:cs[2]? =some x)(hY:Y M)(hk:m.v.k=2)(hn:m.v.n=1):cl 112 #[Pt M] w (MU w M {m with ch:=k.next,mode:=1,v:=x,fr:=k.fr}):=by
 have Z:=h.lt;have h1:=ai r;have h0:=kM h r;have k11:w.cell? (dq M 11)=some (.pointer (eb g)):=by rw[<-R];exact h.cell 11
 have c0:w.cell? (dq g 0)=some (Jn 1):=by rw[<-z];exact ae r 0
 have c6:=kd r 6 (.pointer k.next);have hf:=h.fz;obtain⟨W,J⟩:∃W,W=w.setCell (dq M 11) (.pointer k.next):=⟨_,rfl⟩;have b:aI W M {m with ch:=k.next}:=by rw[J];exact bE (TH h) (by kernel_rfl)
 have o:aB (λk=>k=M) w W:=by rw[J];exact(TU _ _).aY
 have t:di W g k:=eK h r W o;have d0:W.cell? (dq g 0)=some (Jn 1):=by rw[<-z];exact ae t 0
 have X:=ag J;have HH:=ag (ei h (ei b (ei o (ei t r))));obtain⟨gl,ol,H,T,S,d⟩:=cT N hY O;have h4:=(ke.1 O).1;have I:k.l.n=cs.length:=N.1;have p5:=kd b 5 (Jn m.v.k);have p6:=kd b 6 (Jn m.v.n);have C:Hid (∀q,aB (λk=>k=M) w q->Cl q g 2 (.slice (some (dq gl ol)) cs.length k.l.c)/\Cl q g 5 (.pointer k.fr)/\Cl q gl (ol+10) (Jn x.k)/\Cl q gl (ol+10+1) (Jn x.n)/\Cl q gl (ol+10+2) (.string x.s)/\Cl q gl (ol+10+3) (.pointer x.p)/\Cl q gl (ol+10+4) (.pointer x.f)):=λq U=>by
  have F:=eK h r q U;obtain⟨K,l1,l2,l3,L⟩:=d q U;refine⟨?_,ae F 5,K,l1,l2,l3,L⟩;rw[<-H,<-I];exact ae F 2
 have V:=ag (ij W.drew M {m with ch:=k.next} x k.fr b);obtain⟨P,Q,K,l1,l2,l3,L⟩:=C.out W o;have E:=ag o;rw[hk] at p5;rw[hn] at p6;have h2:((2:Nat):Int)<(cs.length:Int):=by omega
 have h3:(2:Int)<(cs.length:Int):=by omega
 clear h r N O R b o t d H I z J;go_enter func112,ntmps112;go_wp2_with (first|(rw[<-X.out]));go_region_held3 (λA=>Cl A g 2 (.slice (some (dq gl ol)) cs.length k.l.c)/\Cl A g 5 (.pointer k.fr)/\Cl A gl (ol+10) (Jn x.k)/\Cl A gl (ol+10+1) (Jn x.n)/\Cl A gl (ol+10+2) (.string x.s)/\Cl A gl (ol+10+3) (.pointer x.p)/\Cl A gl (ol+10+4) (.pointer x.f)) (first|(exact⟨P,Q,K,l1,l2,l3,L⟩)|go_keep) (first|(go_at_call 110;refine V.out.mono ?_;rintro e w9 ⟨rfl,G,y⟩;obtain⟨P,Q,K,l1,l2,l3,L⟩:=C.out w9 (E.out.drew.trans y (λ_ _ h=>h));have D:=ag (ei G y);clear G y))
 all_goals
  go_wp2;refine TT ?_;exact⟨rfl,D.out.1,E.out.drew.trans D.out.2 (λ_ _ h=>h)⟩
theorem JX(w:aa)(Y:a9)(M g:Nat)(m:Rm)(k:Kc)(cs:List Vc)(x:Vc)(h:aI w M m)(R:m.ch=eb g)(r:di w g k)(z:k.kind=1)(N:LR w Y k.l cs)(O:cs[3]? =some x)(hY:Y M)(hk:m.v.k=2)(hn:(m.v.n==1)=false)(h4:cs.length=4):cl 112 #[Pt M] w (MU w M {m with ch:=k.next,mode:=1,v:=x,fr:=k.fr}):=by
 have h0:=h.lt;have h2:=ai r;have h1:=kM h r;have k11:w.cell? (dq M 11)=some (.pointer (eb g)):=by rw[<-R];exact h.cell 11
 have c0:w.cell? (dq g 0)=some (Jn 1):=by rw[<-z];exact ae r 0
 have c6:=kd r 6 (.pointer k.next);have hf:=h.fz;obtain⟨W,J⟩:∃W,W=w.setCell (dq M 11) (.pointer k.next):=⟨_,rfl⟩;have b:aI W M {m with ch:=k.next}:=by rw[J];exact bE (TH h) (by kernel_rfl)
 have o:aB (λk=>k=M) w W:=by rw[J];exact(TU _ _).aY
 have t:di W g k:=eK h r W o;have d0:W.cell? (dq g 0)=some (Jn 1):=by rw[<-z];exact ae t 0
 have X:=ag J;have HH:=ag (ei h (ei b (ei o (ei t r))));obtain⟨gl,ol,H,T,S,d⟩:=cT N hY O;have h6:=(ke.1 O).1;have I:k.l.n=cs.length:=N.1;have p5:=kd b 5 (Jn m.v.k);have p6:=kd b 6 (Jn m.v.n);have C:Hid (∀q,aB (λk=>k=M) w q->Cl q g 2 (.slice (some (dq gl ol)) cs.length k.l.c)/\Cl q g 5 (.pointer k.fr)/\Cl q gl (ol+15) (Jn x.k)/\Cl q gl (ol+15+1) (Jn x.n)/\Cl q gl (ol+15+2) (.string x.s)/\Cl q gl (ol+15+3) (.pointer x.p)/\Cl q gl (ol+15+4) (.pointer x.f)):=λq U=>by
  have F:=eK h r q U;obtain⟨K,l1,l2,l3,L⟩:=d q U;refine⟨?_,ae F 5,K,l1,l2,l3,L⟩;rw[<-H,<-I];exact ae F 2
 have V:=ag (ij W.drew M {m with ch:=k.next} x k.fr b);obtain⟨P,Q,K,l1,l2,l3,L⟩:=C.out W o;have E:=ag o;rw[hk] at p5;have Z:(cs.length:Int)=4:=by omega
 have h3:((3:Nat):Int)<(cs.length:Int):=by omega
 have h5:(3:Int)<(cs.length:Int):=by omega
 clear h r N O R b o t d H I z J;go_enter func112,ntmps112;go_wp2_with (first|(rw[<-X.out]));go_region_held3 (λA=>Cl A g 2 (.slice (some (dq gl ol)) cs.length k.l.c)/\Cl A g 5 (.pointer k.fr)/\Cl A gl (ol+15) (Jn x.k)/\Cl A gl (ol+15+1) (Jn x.n)/\Cl A gl (ol+15+2) (.string x.s)/\Cl A gl (ol+15+3) (.pointer x.p)/\Cl A gl (ol+15+4) (.pointer x.f)) (first|(exact⟨P,Q,K,l1,l2,l3,L⟩)|go_keep) (first|(go_at_call 110;refine V.out.mono ?_;rintro e w9 ⟨rfl,G,y⟩;obtain⟨P,Q,K,l1,l2,l3,L⟩:=C.out w9 (E.out.drew.trans y (λ_ _ h=>h));have D:=ag (ei G y);clear G y))
 all_goals
  go_wp2;refine TT ?_;exact⟨rfl,D.out.1,E.out.drew.trans D.out.2 (λ_ _ h=>h)⟩
theorem JW(w:aa)(Y:a9)(M g:Nat)(m:Rm)(k:Kc)(cs:List Vc)(h:aI w M m)(F:m.ch=eb g)(p:di w g k)(q:k.kind=1)(E:LR w Y k.l cs)(h3:cs.length=3)(K:m.v.k=2)(Q:(m.v.n==1)=false):cl 112 #[Pt M] w (MU w M {m with ch:=k.next,mode:=2,v:=cQ 9 0}):=by
 have H:=h.lt;have J:=ai p;have I:=kM h p;have k11:w.cell? (dq M 11)=some (.pointer (eb g)):=by rw[<-F];exact h.cell 11
 have c0:w.cell? (dq g 0)=some (Jn 1):=by rw[<-q];exact ae p 0
 have N:=kd p 6 (.pointer k.next);have hf:=h.fz;obtain⟨W,A⟩:∃W,W=w.setCell (dq M 11) (.pointer k.next):=⟨_,rfl⟩;have b:aI W M {m with ch:=k.next}:=by rw[A];exact bE (TH h) (by kernel_rfl)
 have o:aB (λk=>k=M) w W:=by rw[A];exact(TU _ _).aY
 have d:di W g k:=eK h p W o;have O:W.cell? (dq g 0)=some (Jn 1):=by rw[<-q];exact ae d 0
 have G:=ag A;have L:=ag (ei h (ei b (ei o (ei d p))));have z:k.l.n=3:=by rw[E.1];exact h3
 have R:W.cell? (dq M 5)=some (Jn 2):=by rw[<-K];exact b.cell 5
 have S:=kd b 6 (Jn m.v.n);have P:W.cell? (dq g 2)=some (.slice k.l.a 3 k.l.c):=by rw[<-z];exact ae d 2
 have D:=ag (dL W M {m with ch:=k.next} (cQ 9 0) b);simp only[cQ] at D;have C:=ag o;clear h p E F b o d z q A;go_enter func112,ntmps112;go_wp2_with (first|(rw[<-G.out]));refine D.out.mono ?_;rintro e T ⟨rfl,t,y⟩;have r:=ag (ei t y);clear t y;go_wp2;refine TT ?_;exact⟨rfl,r.out.1,C.out.trans r.out.2 (λ_ _ h=>h)⟩
theorem A1.upd{w:aa}(h:A1 w B M g m f ns vcs s w'):aB (Gt M g f) w w':=by
 obtain⟨c,h1,h2,h3,b,_⟩:=h;exact b
theorem A1.from{w:aa}(h:A1 W B M g m f ns vcs s w')(c:aB (λk=>k=M) w W):A1 w B M g m f ns vcs s w':=by
 obtain⟨d,h1,h2,h3,l,n,o⟩:=h;have p:=c.size;exact⟨d,h1,h2,h3,(c.mono (λ_ e=>.inl e)).trans l (λ_ _ e=>e),λk b=>(n k b).imp_right (λe=>by omega),λk b=>(o k b).imp_right (λe=>by omega)⟩
theorem FV(w:aa)(B M g gf:Nat)(m:Rm)(k:Kc)(f:Fc)(ns:List au)(vcs:List Vc)(s:au)(h:aI w M m)(n:m.ch=eb g)(r:di w g k)(y:k.kind=2)(D:k.fr=eb gf)(F:k.name=⟨s.toArray⟩)(p:sX w B gf f ns vcs)(hB:B<=w.heap.size)(P:ns.length<=1000000):cl 112 #[Pt M] w (cA (A1 w B M gf {m with ch:=k.next} f ns vcs s)):=by
 have V:=h.lt;have X:=ai r;have O:=kM h r;have k11:w.cell? ⟨M,11,none⟩=some (.pointer (eb g)):=by rw[<-n];exact h.cell 11
 have c0:w.cell? ⟨g,0,none⟩=some (Jn 2):=by rw[<-y];exact ae r 0
 have c6:=kd r 6 (.pointer k.next);have hf:=h.fz;obtain⟨W,I⟩:∃W,W=w.setCell ⟨M,11,none⟩ (.pointer k.next):=⟨_,rfl⟩;have t:aI W M {m with ch:=k.next}:=by rw[I];exact bE (TH h) (by kernel_rfl)
 have d:aB (λk=>k=M) w W:=by rw[I];exact(TU _ _).aY
 have b:di W g k:=eK h r W d;have d0:W.cell? ⟨g,0,none⟩=some (Jn 2):=by rw[<-y];exact ae b 0
 have U:=ag I;have HH:=ag (ei h (ei t (ei d (ei b r))));have E:gf≠M:=bB p.fc h (by decide);have l:sX W.drew B gf f ns vcs:=by
  have G:=d.drew;refine⟨G.at p.fc E,aq p.nr G (λq Q e=> ?_),aq p.vr G (λq Q e=> ?_),p.ln⟩
  .obtain⟨c,n⟩:=bt p.nr Q;exact bB n h (by decide) e
  .obtain⟨c,n⟩:=bt p.vr Q;exact bB n h (by decide) e
 have A:=ag (JA W.drew B M gf {m with ch:=k.next} f ns vcs s t l (by have:=d.size;show B<=W.heap.size;omega) P);obtain⟨z,J⟩:∃z:ao,z=⟨s.toArray⟩:=⟨_,rfl⟩;rw[<-J] at A;have S:W.cell? ⟨g,5,none⟩=some (.pointer (eb gf)):=by rw[<-D];exact ae b 5
 have R:W.cell? ⟨g,1,none⟩=some (.string z):=by rw[J,<-F];exact ae b 1
 have K:Hid (∀H,aB (Gt M gf f) W.drew H->H.cell? ⟨g,5,none⟩=some (Pt gf)/\H.cell? ⟨g,1,none⟩=some (.string z)):=λH G=>by
  have C:di H g k:=G.at (o:=Obj.cells k.c 299 (0,0)) b (λe=>by
   rcases e with e|e|e|e
   .exact O e
   .exact bB b l.fc (by decide) e
   .obtain⟨c,n⟩:=bt l.nr e;exact bB b n (by decide) rfl
   .obtain⟨c,n⟩:=bt l.vr e;exact bB b n (by decide) rfl)
  exact⟨by show _=some (Value.pointer (eb gf));rw[<-D];exact ae C 5,by rw[J,<-F];exact ae C 1⟩
 have N:=ag d;clear h r n t d b y I p l J;go_enter func112,ntmps112;go_wp2_with (first|(rw[<-U.out]));go_region_held3 (λT=>T.cell? ⟨g,5,none⟩=some (Pt gf)/\T.cell? ⟨g,1,none⟩=some (.string z)) (first|(exact⟨S,R⟩)|go_keep) (first|(go_at_call 187;refine A.out.mono ?_;rintro e Z ⟨rfl,v⟩;obtain⟨S,R⟩:=K.out Z v.upd;have L:=ag v;clear v))
 all_goals
  go_wp2;refine TT ?_;exact⟨rfl,L.out.from N.out.drew⟩
theorem LR.tail{w:aa}{c:Vc}(h:LR w Y u (c::cs))(o:u.a=some (dq gl ol)):LR w Y ⟨some (dq gl (ol+5)),cs.length,u.c-1⟩ cs:=by
 obtain⟨h1,h2,h3,l⟩:=h;obtain⟨g,q,d,b,e2,e3,e⟩:=l (by simp);rw[o] at b;cases b;have h1:u.n=cs.length+1:=h1;refine⟨rfl,by show cs.length<=u.c-1;omega,by show u.c-1<=maxLen;omega,λ_=>⟨gl,ol+5,d,rfl,e2,e3,λi v hi j x p=> ?_⟩⟩;have:=e (i+1) v (by simpa using hi) j x p;rw[show ol+5+i *5+j=ol+(i+1) *5+j by omega];exact this
theorem LR.mi{w:aa}(h:LR w Y u cs)(d:Y M)(l:aB (λk=>k=M) w w'):LR w' Y u cs:=h.ak λb hb c=>⟨c,l.block b hb (λe=>c (e▸d))⟩
theorem uV(w:aa)(M g:Nat)(m:Rm)(k:Kc)(P:aa->Prop)(h:aI w M m)(v:m.ch=eb g)(d:di w g k)(n:k.kind=5)(t:∀W,aB (λk=>k=M) w W->aI W M {m with ch:=k.next}->di W g k->cl 188 #[Pt M,Pt g] W (cA P)):cl 112 #[Pt M] w (cA P):=by
 have z:=h.lt;have C:=ai d;have A:=kM h d;have k11:w.cell? (dq M 11)=some (.pointer (eb g)):=by rw[<-v];exact h.cell 11
 have c0:w.cell? (dq g 0)=some (Jn 5):=by rw[<-n];exact ae d 0
 have E:=kd d 6 (.pointer k.next);have hf:=h.fz;obtain⟨W,p⟩:∃W,W=w.setCell (dq M 11) (.pointer k.next):=⟨_,rfl⟩;have l:aI W M {m with ch:=k.next}:=by rw[p];exact bE (TH h) (by kernel_rfl)
 have c:aB (λk=>k=M) w W:=by rw[p];exact(TU _ _).aY
 have b:di W g k:=eK h d W c;have F:W.cell? (dq g 0)=some (Jn 5):=by rw[<-n];exact ae b 0
 have y:=ag p;have D:=ag (ei h (ei l (ei c (ei b d))));have q:=ag (t W c l b);clear h d v l c b n p t;go_enter func112,ntmps112;go_wp2_with (first|(rw[<-y.out]));refine q.out.mono ?_;rintro e G ⟨rfl,o⟩;have r:=ag o;clear o;go_wp2;refine TT ?_;exact⟨rfl,r.out⟩
theorem uW(w:aa)(Y:a9)(M g:Nat)(m:Rm)(k:Kc)(c:Vc)(cs:List Vc)(P:aa->Prop)(h:aI w M m)(N:m.ch=eb g)(p:di w g k)(t:k.kind=4)(y:LR w Y k.l (c::cs))(L:Y M)(X:cs.length<=1000)(h5:0<cs.length)(I:∀(W:aa) (u:Sl),aB (λk=>k=M) w W->aI W M {m with ch:=k.next}->LR W Y u cs->cl 184 #[Pt M,.slice u.a u.n u.c,.pointer k.fr] W (cA P))(J:∀w',P w'->∃S:Nat->Prop,aB S w w'/\¬S g):cl 112 #[Pt M] w (cA P):=by
 have U:=h.lt;have h0:=ai p;have Z:=kM h p;have k11:w.cell? (dq M 11)=some (.pointer (eb g)):=by rw[<-N];exact h.cell 11
 have c0:w.cell? (dq g 0)=some (Jn 4):=by rw[<-t];exact ae p 0
 have c6:=kd p 6 (.pointer k.next);have hf:=h.fz;obtain⟨W,E⟩:∃W,W=w.setCell (dq M 11) (.pointer k.next):=⟨_,rfl⟩;have q:aI W M {m with ch:=k.next}:=by rw[E];exact bE (TH h) (by kernel_rfl)
 have d:aB (λk=>k=M) w W:=by rw[E];exact(TU _ _).aY
 have b:di W g k:=eK h p W d;have d0:W.cell? (dq g 0)=some (Jn 4):=by rw[<-t];exact ae b 0
 have T:=ag E;have HH:=ag (ei h (ei q (ei d (ei b p))));obtain⟨gl,ol,o,Q,O,_⟩:=cT y L (i:=0) (x:=c) rfl;have v:k.l.n=cs.length+1:=y.1;have h1:k.l.n<=k.l.c:=y.2.1;have h2:k.l.c<=maxLen:=y.2.2.1;have A:=ag (I W.drew ⟨some (dq gl (ol+5)),cs.length,k.l.c-1⟩ d.drew q ((y.tail o).mi L d.drew));have G:W.cell? (dq g 2)=some (.slice (some (dq gl ol)) (cs.length+1) k.l.c):=by rw[<-o,<-v];exact ae b 2
 have K:=kd b 5 (.pointer k.fr);have C:Hid (∀z,P z->Cl z g 2 (.slice (some (dq gl ol)) (cs.length+1) k.l.c)/\Cl z g 5 (.pointer k.fr)):=λz hp=>by
  obtain⟨S,hu,hS⟩:=J z hp;have D:di z g k:=hu.at p hS;exact⟨by rw[<-o,<-v];exact ae D 2,ae D 5⟩
 obtain⟨n,H⟩:∃n,n=cs.length+1:=⟨_,rfl⟩;rw[<-H] at G;rw[<-H] at C;rw[show cs.length=n-1 by omega] at A;have V:¬k.l.c=1:=by omega
 have h3:(1:Int)<=(n:Int):=by omega
 have h4:(n:Int)<=(k.l.c:Int):=by omega
 clear h p y N q d b t E I J o v H;go_enter func112,ntmps112;go_wp2_with (first|(rw[<-T.out]));go_region_held3 (λR=>Cl R g 2 (.slice (some (dq gl ol)) n k.l.c)/\Cl R g 5 (.pointer k.fr)) (first|(exact⟨G,K⟩)|go_keep) (first|(go_at_call 184;refine A.out.mono ?_;rintro e w9 ⟨rfl,r⟩;obtain⟨G,K⟩:=C.out w9 r;have F:=ag r;clear r))
 all_goals
  go_wp2;refine TT ?_;exact⟨rfl,F.out⟩
theorem JY(w:aa)(mf:Nat->Option Nat)(M g:Nat)(m:Rm)(k:Kc)(s:au)(h:aI w M m)(I:m.ch=eb g)(d:di w g k)(n:k.kind=3)(F:k.name=⟨s.toArray⟩)(H:∀W,aB (λk=>k=M) w W->cl 178 #[.pointer k.fr,.string ⟨s.toArray⟩] W (GA W mf none)):cl 112 #[Pt M] w (MU w M {m with ch:=k.next,st:=2,er:=5}):=by
 have P:=h.lt;have R:=ai d;have Q:=kM h d;have k11:w.cell? (dq M 11)=some (.pointer (eb g)):=by rw[<-I];exact h.cell 11
 have c0:w.cell? (dq g 0)=some (Jn 3):=by rw[<-n];exact ae d 0
 have T:=kd d 6 (.pointer k.next);have hf:=h.fz;obtain⟨W,y⟩:∃W,W=w.setCell (dq M 11) (.pointer k.next):=⟨_,rfl⟩;have l:aI W M {m with ch:=k.next}:=by rw[y];exact bE (TH h) (by kernel_rfl)
 have c:aB (λk=>k=M) w W:=by rw[y];exact(TU _ _).aY
 have b:di W g k:=eK h d W c;have U:W.cell? (dq g 0)=some (Jn 3):=by rw[<-n];exact ae b 0
 have L:=ag y;have S:=ag (ei h (ei l (ei c (ei b d))));obtain⟨z,G⟩:∃z:ao,z=⟨s.toArray⟩:=⟨_,rfl⟩;have O:=kd b 5 (.pointer k.fr);have N:W.cell? (dq g 1)=some (.string z):=by rw[G,<-F];exact ae b 1
 have o:=ag (H W.drew c.drew);rw[<-G] at o;have D:=ag c;have A:Hid (∀q,aI q M {m with ch:=k.next}->cl 179 #[Pt M,Jn 5] q (MU q M {m with ch:=k.next,st:=2,er:=5})):=λq E=>fh q M _ 5 E;have C:=ag l;clear h d I l c b n y H G;go_enter func112,ntmps112;go_wp2_with (first|(rw[<-L.out]));go_region_held3 (λK=>Cl K g 5 (.pointer k.fr)/\Cl K g 1 (.string z)) (first|(exact⟨O,N⟩)|go_keep) (first|(go_at_call 178;refine o.out.mono ?_;rintro e J ⟨v,rfl⟩;obtain rfl:W.drew=J:=v.symm;clear v))
 all_goals
  go_wp2_with fail;refine(A.out W.drew C.out).mono ?_;rintro e J ⟨rfl,r,t⟩;have p:=ag (ei r t);clear r t;go_wp2;refine TT ?_;exact⟨rfl,p.out.1,D.out.drew.trans p.out.2 (λ_ _ h=>h)⟩
def QI(w:aa)(B M gf:Nat)(m:Rm)(f:Fc)(ns:List au)(vcs:List Vc)(i:Nat)(x:Vc)(w':aa):Prop:=sX w' B gf f ns (vcs.set i x)/\aI w' M m/\aB (λk=>k=M\/(Value.slice f.vals.a f.vals.n f.vals.c).ownBlock=some k) w w'
theorem JU(w:aa)(B:Nat)(mf:Nat->Option Nat)(M g gf fi i:Nat)(m:Rm)(k:Kc)(s:au)(f:Fc)(ns:List au)(vcs:List Vc)(h:aI w M m)(F:m.ch=eb g)(L:di w g k)(O:k.kind=3)(ha:k.name=⟨s.toArray⟩)(h0:mf fi=some gf)(E:sX w B gf f ns vcs)(hi:i<vcs.length)(ho:ns.length<=1000000)(HC:∀W,aB (λk=>k=M) w W->cl 178 #[.pointer k.fr,.string ⟨s.toArray⟩] W (GA W mf (some (fi,i)))):cl 112 #[Pt M] w (cA (QI w B M gf {m with ch:=k.next,mode:=2,v:=cQ 9 0} f ns vcs i m.v)):=by
 have hl:=h.lt;have hn:=ai L;have hm:=kM h L;have k11:w.cell? (dq M 11)=some (.pointer (eb g)):=by rw[<-F];exact h.cell 11
 have c0:w.cell? (dq g 0)=some (Jn 3):=by rw[<-O];exact ae L 0
 have c6:=kd L 6 (.pointer k.next);have hf:=h.fz;obtain⟨W,hW⟩:∃W,W=w.setCell (dq M 11) (.pointer k.next):=⟨_,rfl⟩;have b:aI W M {m with ch:=k.next}:=by rw[hW];exact bE (TH h) (by kernel_rfl)
 have d:aB (λk=>k=M) w W:=by rw[hW];exact(TU _ _).aY
 have C:di W g k:=eK h L W d;have d0:W.cell? (dq g 0)=some (Jn 3):=by rw[<-O];exact ae C 0
 have HW:=ag hW;have HH:=ag (ei h (ei b (ei d (ei C L))));obtain⟨z,hz⟩:∃z:ao,z=⟨s.toArray⟩:=⟨_,rfl⟩;have d5:=kd C 5 (.pointer k.fr);have d1:W.cell? (dq g 1)=some (.string z):=by rw[hz,<-ha];exact ae C 1
 have R:=ag (HC W.drew d.drew);rw[<-hz] at R;have h8:=ag d;have H:gf≠M:=bB E.fc h (by decide);have A:sX W B gf f ns vcs:=by
  refine⟨d.at E.fc H,aq E.nr d (λq P e=> ?_),aq E.vr d (λq P e=> ?_),E.ln⟩
  .obtain⟨c,F⟩:=bt E.nr P;exact bB F h (by decide) e
  .obtain⟨c,F⟩:=bt E.vr P;exact bB F h (by decide) e
 obtain⟨l,capv,hh,_,hk,_,_,r⟩:=db A.vr (by omega);injection hh with v1 v2 v3;have h1:∃c,W.heap[l]? =some (Obj.cells c 96 (0,0)):=bt A.vr (by rw[v1];rfl);obtain⟨cg,G⟩:=h1;have I:l≠M:=bB G b (by decide);have e1:W.cell? (dq gf 1)=some (.slice (eb l) vcs.length f.vals.c):=by rw[<-v1,<-v2];exact ae A.fc 1
 obtain⟨D,t⟩:∃v,vcs[i]? =some v:=⟨vcs[i],fA hi⟩;have s0:Cl W l (i *5) (Jn D.k):=r _ _ (cC vcs i D t 0 _ rfl);have s1:Cl W l (i *5+1) (Jn D.n):=r _ _ (cC vcs i D t 1 _ rfl);have s2:Cl W l (i *5+2) (.string D.s):=r _ _ (cC vcs i D t 2 _ rfl);have s3:Cl W l (i *5+3) (.pointer D.p):=r _ _ (cC vcs i D t 3 _ rfl);have s4:Cl W l (i *5+4) (.pointer D.f):=r _ _ (cC vcs i D t 4 _ rfl);have sf:=ah G;have p5:=kd b 5 (Jn m.v.k);have p6:=kd b 6 (Jn m.v.n);have p7:=kd b 7 (.string m.v.s);have p8:=kd b 8 (.pointer m.v.p);have p9:=kd b 9 (.pointer m.v.f);have V:aI ((sH W l (i *5) m.v).drew).drew M {m with ch:=k.next}:=(ni W l (i *5) m.v).at b (λe=>I e.symm);have h6:Hid (∀T,aI T M {m with ch:=k.next}->cl 180 #[Pt M,.agg #[Jn 9,Jn 0,.string ⟨#[]⟩,.pointer none,.pointer none]] T (MU T M {m with ch:=k.next,mode:=2,v:=cQ 9 0})):=λT h9=>dL T M _ (cQ 9 0) h9;have y:=ag (ei b (ei V (ei A (ei G v1))));have h3:f.vals.n=vcs.length:=v2;have S:=ag h3;have i1:(0:Int)<=(i:Int):=by omega
 have i2:(i:Int)<(vcs.length:Int):=by omega
 have hp:vcs.length<=1000000:=by have:=E.ln;omega
 have h7:=ag h0;clear h L F b d C O hW HC hz E A r G v1 v2 v3 h3 V t h0;go_enter func112,ntmps112;go_wp2_with (first|(rw[<-HW.out]));go_region_held3 (λwx=>Cl wx g 5 (.pointer k.fr)/\Cl wx g 1 (.string z)) (first|(exact⟨d5,d1⟩)|go_keep) (first|(go_at_call 178;refine R.out.mono ?_;rintro e w9 ⟨h5,gx,h2,rfl⟩;obtain rfl:W.drew=w9:=h5.symm;have J:=h2.symm.trans h7.out;obtain rfl:=pb J;clear h5 h2 J))
 all_goals
  go_wp2;go_region;go_wp2_with fail;refine(h6.out _ y.out.2.1).mono ?_;rintro e w9 ⟨rfl,X,Z⟩;have K:=ag (ei X Z);clear X Z;go_wp2;refine TT ?_;have hg:aB (λk=>k=l) W (sH W l (i *5) m.v).drew.drew:=(ni W l (i *5) m.v).drew.drew;have Q:aB (λj=>j=l\/j=M) W w9:=(hg.mono (λ_ h=>.inl h)).trans (K.out.2.mono (λ_ h=>.inr h)) (λ_ _ h=>h);have o:=y.out.2.2.1;have U:=y.out.2.2.2.1;have N:=y.out.2.2.2.2;refine⟨rfl,⟨?_,?_,?_,?_⟩,K.out.1,(h8.out.mono (λ_ h=>.inl h)).trans (Q.mono (λj hj=> ?_)) (λ_ _ h=>h)⟩
  .refine Q.at o.fc (λe=> ?_);rcases e with e|e
   .exact bB o.fc U (by decide) e
   .exact H e
  .exact aq o.nr Q (λq P e=>by
    obtain⟨c,F⟩:=bt o.nr P;rcases e with e|e
    .exact bB F U (by decide) e
    .exact bB F y.out.1 (by decide) e)
  .have h4:=o.vr;rw[N,S.out] at h4;have hb:=Ao (i:=i) (v:=m.v) h4 hi;have hd:=aq hb (((TU (λ_=>False) (sH W l (i *5) m.v)).drew).drew) (λ_ _ h=>h);have he:=aq hd K.out.2 (λq P e=>by
    have:l=q:=pb P;exact I (this.trans e))
   rw[N,S.out,s5];exact he
  .rw[s5];exact o.ln
  .rcases hj with rfl|rfl
   .exact .inr (by rw[N];rfl)
   .exact .inl rfl
theorem JD(w:aa)(Y:a9)(M:Nat)(m:Rm)(u:Sl)(c0 x:Vc)(t:au)(d:Nat)(h:aI w M m)(o:LR w Y u [c0,dy t,x])(O:Y M)(F:cL w m.ch d):cl 182 #[Pt M,.slice u.a u.n u.c] w (cA (ft w M m ⟨2,⟨t.toArray⟩,ef,ef,none,none,0⟩ x d)):=by
 obtain⟨gl,ol,p,H,_,A,C,q,D,E⟩:=o.at (i:=1) (v:=dy t) rfl;obtain⟨G,J,l,_,_,K,b1,b2,L,N⟩:=o.at (i:=2) (v:=x) rfl;rw[p] at l;cases l;rw[PS] at A C q D E;have I:u.n=3:=o.1;have P:3<=u.c:=by have:=o.2.1;omega
 rw[p,I];obtain⟨z,r⟩:∃z:ao,z=⟨t.toArray⟩:=⟨_,rfl⟩;simp only[dy] at A C q D E;rw[<-r] at q;rw[<-r];have y:Hid (∀o1 o2,cl 181 #[Pt M,.agg (⟨2,z,ef,ef,none,none,0⟩:Kc).c,.agg x.c] ((w.alloc o1).alloc o2) (jb ((w.alloc o1).alloc o2) M m ⟨2,z,ef,ef,none,none,0⟩ x d)):=λo1 o2=>eu _ M m _ x d ((h.alloc o1).alloc o2) (F.upd h (((TU _ w).alloc _).alloc _));unfold Kc.c Vc.c ef at y;clear h o F r;go_enter func182,ntmps182;go_wp2_with fail;refine(y.out _ _).mono ?_;intro e w1 h1;obtain rfl:=h1.ret;have HM:=ag (h1.b (w:=w) (((TU (λk=>k=M) w).alloc _).alloc _));clear h1;go_wp2;refine TT ?_;exact⟨rfl,HM.out⟩
def QM(w:aa)(M:Nat)(m:Rm)(t:au)(cs:List Vc)(d:Nat)(w':aa):Prop:=∃c w1,eC w1 c cs/\aB (λk=>k=M) w w1/\aI w1 M m/\ft w1 M m ⟨2,⟨t.toArray⟩,ef,ef,none,none,0⟩ c d w'
set_option maxHeartbeats 8000000 in
theorem FG(w:aa)(Y:a9)(M:Nat)(m:Rm)(u:Sl)(c0 x l:Vc)(bs:List Vc)(t:au)(g d:Nat)(h:aI w M m)(hL:LR w Y u (c0::eg g::x::bs))(hY:Y M)(S:gY w g (dy t) l)(hQ:bs.length<=998)(hD:cL w m.ch d):cl 182 #[Pt M,.slice u.a u.n u.c] w (cA (QM w M m t (dy cz::l::x::bs) d)):=by
 obtain⟨gl,ol,h4,hv,_,a0,a1,a2,a3,a4⟩:=hL.at (i:=1) (v:=eg g) rfl;obtain⟨hT,H3,T,_,_,b0,b1,b2,b3,b4⟩:=hL.at (i:=2) (v:=x) rfl;rw[h4] at T;cases T;rw[PS] at a0 a1 a2 a3 a4;have hn:u.n=bs.length+3:=hL.1;have hc:u.n<=u.c:=hL.2.1;have hp:=(hL.tail h4).tail rfl;obtain⟨gl2,ol2,U,hK,_,hu⟩:=hp.flat (by simp);simp only at U;cases U;rw[h4,hn];have hM:gl<w.heap.size:=hv;have hI:g<w.heap.size:=ai S;have p5:=kd S 5 (Jn l.k);have p6:=kd S 6 (Jn l.n);have p7:=kd S 7 (.string l.s);have p8:=kd S 8 (.pointer l.p);have p9:=kd S 9 (.pointer l.f);have hV:g<w.heap.size+1:=by omega
 have hW:g<w.heap.size+1+1:=by omega
 have hN:gl<w.heap.size+1:=by omega
 have hO:gl<w.heap.size+1+1:=by omega
 obtain⟨i0,hi,hx,h7,h8⟩:=sv kh;have HI:=ag (ei hi (ei hx (ei h7 h8)));obtain⟨n,h5⟩:∃n,n=bs.length+3:=⟨_,rfl⟩;rw[<-h5];have hU:¬u.c=2:=by omega
 have hX:(3:Int)<=(n:Int):=by omega
 have H0:(n:Int)<=(u.c:Int):=by omega
 simp only[eg] at a0 a1 a2 a3 a4;obtain⟨F,A⟩:∃F,F=((w.alloc (.cells (eg g).c 96)).alloc (.cells x.c 96)).alloc (.cells ((dy cz).c++l.c) 96):=⟨_,rfl⟩;have h3:Below w.heap.size w F:=by rw[A];exact(((fL _ w).alloc (ew _) _).alloc (by simp) _).alloc (by simp;omega) _
 have hb:F.heap.size=w.heap.size+3:=by rw[A];simp
 have hr:F.heap[w.heap.size+1+1]? =some (.cells ((dy cz).c++l.c) 96):=by rw[A,aQ,fN (by simp)]
 have hl:F.heap[w.heap.size+1]? =some (.cells x.c 96):=by
  rw[A];have:=fK (w.alloc (.cells (eg g).c 96)) (.cells x.c 96);rw[show(w.alloc (.cells (eg g).c 96)).heap.size=w.heap.size+1 by simp] at this;exact aw this
 have hf:F.heap[w.heap.size]? =some (.cells (eg g).c 96):=by rw[A];exact aw (aw (fK _ _))
 have hB:Hid (F.ownsRow (w.heap.size+2) 96 5 (.slice (eb (w.heap.size+1+1)) 2 2) 2 (bw [dy cz,l])):=⟨rfl,.inr ⟨w.heap.size+1+1,2,_,rfl,by omega,hr,ew 2,by unfold maxLen;omega,rfl,rfl⟩⟩;have hy:Hid (∀(j:Nat) y,(bw (x::bs))[j]? =some y->F.cell? (Addr.add (dq gl (ol+10)) j)=some y):=λj y hj=>by
  have h1:=hu j y hj;have ha:Addr.add (dq gl (ol+10)) j=(dq gl (ol+10+j)):=by simp[Addr.add]
  have hH:Addr.add (dq gl (ol+5+5)) j=(dq gl (ol+10+j)):=by simp[Addr.add]
  rw[hH] at h1;rw[ha,h3.cell (p:=(dq gl (ol+10+j))) hv];exact h1
 have HN:=ag h5;have HX:=ag (ei h (ei S hD));have hA:Hid ((bw (x::bs)).length=(n-2) *5):=by show _=_;rw[eX];simp;omega
 have hJ:0<n-2:=by omega
 have hZ:n<=1001:=by omega
 have HA:=ag (ei h3 (ei hb (ei hf hl)));simp only[Vc.c,eg,dy,cz] at A;have hC:=ag A;clear h hL S hD hi hx h7 h8 h5 hp hu hn hc h3 hb hr hl hf A;go_enter func182,ntmps182;go_wp2_with (at_builtin;(first|rw[show(((w.alloc (Obj.cells #[Jn 5,Jn 0,.string ⟨#[]⟩,Pt g,.pointer none] 96)).alloc (Obj.cells #[Jn x.k,Jn x.n,.string x.s,.pointer x.p,.pointer x.f] 96)).alloc (Obj.cells #[Jn 3,Jn 0,.string ⟨#[108,97,109,98,100,97]⟩,.pointer none,.pointer none,Jn l.k,Jn l.n,.string l.s,.pointer l.p,.pointer l.f] 96))=F from hC.out.symm]);refine nl _ rfl (.tmp 23) (.tmp 25) 65 rfl (w.heap.size+2) 96 i0 fm 5 48 underlying65 HI.out.1 HI.out.2.1 HI.out.2.2.1 HI.out.2.2.2 rfl (by decide) _ 2 (bw [dy cz,l]) rfl hB.out (dq gl (ol+10)) (n-2) _ (bw (x::bs)) rfl hA.out hy.out (kS (x::bs)) hJ (by unfold maxLen;omega) (by omega) (by have:=HA.out.2.1;omega) F.heap.size rfl ?_);intro g1 cap1 w1 N E hs hR;have O:aB (λk=>k=w.heap.size+2) F w1:=T2 (TU _ F) E (λk hk _=>by
  have:w.heap.size+1+1=k:=pb hk;show k=w.heap.size+2;omega)
 have hb:=HA.out.2.1;have h7:=O.size;have hd:=O.at HA.out.2.2.1 (by omega);have hh:=O.at HA.out.2.2.2 (by omega);have ht:Below w.heap.size w w1:=HA.out.1.trans (O.below (by omega) (λk hk=>by omega));have V:Row (w.heap.size+2) w1 (.slice (eb g1) (2+(n-2)) cap1) (dy cz::l::x::bs):=by
  unfold Row;rw[show(dy cz::l::x::bs).length=2+(n-2) by have:=HN.out;simp;omega];exact N
 obtain⟨u1,X,hq⟩:=V.lr (Y:=λ_=>False) (λ_ _ _ h=>h);have h0:=ag (sB w1 u1 _ _ hq (by simp;omega));rw[<-X] at h0;have H1:=ag (ei hd (ei hh ht));clear N E hs O hd hh ht V X hq
 generalize 2+(n-2)=q at *
 go_wp2_with fail;refine h0.out.mono ?_;rintro e w2 ⟨c,rfl,ho,L⟩;have h8:=L.size;have he:=(L.block _ (by omega)).trans H1.out.1;have r:=(L.block _ (by omega)).trans H1.out.2.1;have D:Below w.heap.size w w2:=H1.out.2.2.trans (L.mono (by omega));obtain⟨Q,J⟩:∃Q,Q=dW w2 (w.heap.size+1) (Jn c.k) (Jn c.n) (.string c.s) (.pointer c.p) (.pointer c.f):=⟨_,rfl⟩;have C:aB (λk=>k=w.heap.size+1) w2 Q:=by rw[J];exact cU _ _ _ _ _ _ _
 have hm:Q.heap[w.heap.size+1]? =some (.cells c.c 96):=by rw[J];exact bA _ _ _ _ _ r
 have o:=C.at he (by omega);have H:gY Q g (dy t) l:=C.at ((D.block g hI).trans HX.out.2.1) (by omega);obtain⟨z,hz⟩:∃z:ao,z=⟨t.toArray⟩:=⟨_,rfl⟩;obtain⟨I,K⟩:∃I,I=dW Q w.heap.size (Jn 3) (Jn 0) (.string z) (.pointer none) (.pointer none):=⟨_,rfl⟩;have P:aB (λk=>k=w.heap.size) Q I:=by rw[K];exact cU _ _ _ _ _ _ _
 have hg:I.heap[w.heap.size]? =some (.cells #[Jn 3,Jn 0,.string z,.pointer none,.pointer none] 96):=by rw[K];exact bA _ _ _ _ _ o
 have G:=P.at hm (by omega);have hw:KR w2 I:=(jw r C).trans (jw o P);have H2:=C.size;have h6:aB (λk=>k=M) w I:=((TW _ D).trans (C.mono (S':=λk=>k=M\/w.heap.size<=k) (λj hj=>.inr (by omega))) (λj hj e=>by omega)).trans (P.mono (S':=λk=>k=M\/w.heap.size<=k) (λj hj=>.inr (by omega))) (λj hj e=>by omega);have h2:aI I M m:=by
  have hG:=HX.out.1.lt;exact P.at (C.at ((D.block M hG).trans HX.out.1) (by omega)) (by omega)
 have R:eC I c (dy cz::l::x::bs):=T4 hw _ _ ho;have HP:=ag (eu I M m ⟨2,z,ef,ef,none,none,0⟩ c d h2 (HX.out.2.2.upd HX.out.1 h6));unfold Kc.c Vc.c ef at HP;have v0:=kd r 0 (Jn x.k);have v1:=kd r 1 (Jn x.n);have v2:=kd r 2 (.string x.s);have v3:=kd r 3 (.pointer x.p);have v4:=kd r 4 (.pointer x.f);have vf:=ah r;have m0:=kd o 0 (Jn 5);have m1:=kd o 1 (Jn 0);have m2:=kd o 2 (.string ⟨#[]⟩);have m3:=kd o 3 (Pt g);have m4:=kd o 4 (.pointer none);have mf:=ah o;have g0:=kd H 0 (Jn 3);have hS:=kd H 1 (Jn 0);have g2:Q.cell? (dq g 2)=some (.string z):=by rw[hz];exact ae H 2
 have g3:=kd H 3 (.pointer none);have g4:=kd H 4 (.pointer none);have n2:=kd hg 2 (.string z);have o0:=kd G 0 (Jn c.k);have o1:=kd G 1 (Jn c.n);have o2:=kd G 2 (.string c.s);have o3:=kd G 3 (.pointer c.p);have o4:=kd G 4 (.pointer c.f);have HZ:=ag hz;have Z:=ag (ei R (ei h6 h2));unfold dW at J K;have hE:=ag J;have hF:=ag K;clear ho L he r D J C hm o H K P hg G hw h6 h2 R hz h0;unfold Vc.c;go_wp2_with (first|(rw[<-hE.out])|(rw[<-hF.out]));refine HP.out.mono ?_;intro e w9 h9;obtain rfl:=h9.ret;have HM:=ag (h9.b (w:=I) (TU _ _));clear h9;go_wp2;refine TT ?_;refine⟨rfl,c,I,Z.out.1,Z.out.2.1,Z.out.2.2,?_⟩;rw[<-HZ.out];exact HM.out
theorem JM(w:aa)(mf:Nat->Option Nat)(M:Nat)(m:Rm)(s:au)(h:aI w M m)(d:m.v=dy s)(A:∀W,aB (λk=>k=M) w W->cl 178 #[.pointer m.fr,.string ⟨s.toArray⟩] W (GA W mf none)):cl 111 #[Pt M] w (MU w M {m with st:=2,er:=5}):=by
 have G:=h.lt;obtain⟨z,y⟩:∃z:ao,z=⟨s.toArray⟩:=⟨_,rfl⟩;have H:=kv h d 5 (Jn 3);have k6:=kv h d 6 (Jn 0);have I:w.cell? (dq M 7)=some (.string z):=by have:=h.cell 7;rw[this,y];show some (Value.string m.v.s)=_;rw[d];rfl
 have J:=kv h d 8 (.pointer none);have K:=kv h d 9 (.pointer none);obtain⟨W,q⟩:∃W,W=w.alloc (.cells #[Jn 3,Jn 0,.string z,.pointer none,.pointer none] 96):=⟨_,rfl⟩;have b:aI W M m:=by rw[q];exact h.alloc _
 have c:aB (λk=>k=M) w W:=by rw[q];exact(TU _ _).alloc _
 have q10:=kd b 10 (.pointer m.fr);have b2:W.cell? (dq w.heap.size 2)=some (.string z):=by rw[q];exact(Cb _ _ _ _ (by simp)).trans rfl
 have l:=ag (A W.drew c.drew);rw[<-y] at l;have t:=ag (fh W.drew M m 5 b);have F:=ag q;have E:=ag c;clear h d A b c q y;go_enter func111,ntmps111;go_wp2;rw[<-F.out];go_region_held3 (λD=>Cl D M 10 (.pointer m.fr)/\Cl D w.heap.size 2 (.string z)) (first|exact⟨q10,b2⟩|go_keep) (first|(go_at_call 178;refine l.out.mono ?_;rintro e C ⟨r,rfl⟩;obtain rfl:W.drew=C:=r.symm;clear r))
 all_goals
  go_wp2_with fail;refine t.out.mono ?_;rintro e C ⟨rfl,o,p⟩;have n:=ag (ei o p);clear o p;go_wp2;refine TT ?_;exact⟨rfl,n.out.1,E.out.drew.trans n.out.2 (λ_ _ h=>h)⟩
theorem JN(w:aa)(B:Nat)(mf:Nat->Option Nat)(M gf R i:Nat)(m:Rm)(s:au)(f:Fc)(ns:List au)(vcs:List Vc)(x:Vc)(h:aI w M m)(A:m.v=dy s)(I:mf R=some gf)(E:sX w B gf f ns vcs)(y:vcs[i]? =some x)(Z:ns.length<=1000000)(Q:∀W,aB (λk=>k=M) w W->cl 178 #[.pointer m.fr,.string ⟨s.toArray⟩] W (GA W mf (some (R,i)))):cl 111 #[Pt M] w (MU w M {m with mode:=2,v:=x}):=by
 have hl:=h.lt;obtain⟨z,P⟩:∃z:ao,z=⟨s.toArray⟩:=⟨_,rfl⟩;have k5:=kv h A 5 (Jn 3);have k6:=kv h A 6 (Jn 0);have k7:w.cell? (dq M 7)=some (.string z):=by have:=h.cell 7;rw[this,P];show some (Value.string m.v.s)=_;rw[A];rfl
 have k8:=kv h A 8 (.pointer none);have k9:=kv h A 9 (.pointer none);obtain⟨W,H⟩:∃W,W=w.alloc (.cells #[Jn 3,Jn 0,.string z,.pointer none,.pointer none] 96):=⟨_,rfl⟩;have r:aI W M m:=by rw[H];exact h.alloc _
 have b:Below w.heap.size w W:=by rw[H];exact aR _ _
 have t:aB (λk=>k=M) w W:=TW _ b;have q10:=kd r 10 (.pointer m.fr);have b2:W.cell? (dq w.heap.size 2)=some (.string z):=by rw[H];exact(Cb _ _ _ _ (by simp)).trans rfl
 have h1:=(ke.1 y).1;obtain⟨o,capv,O,_,d,_,_,l⟩:=db E.vr (by omega);injection O with v1 S v3;have e1:W.cell? (dq gf 1)=some (.slice (eb o) vcs.length f.vals.c):=by rw[<-v1,<-S,b.cell (p:=(dq gf 1)) (ai E.fc)];exact ae E.fc 1
 have s0:Cl W o (i *5) (Jn x.k):=(b.cell (p:=(dq o (i *5))) d).trans (l _ _ (cC vcs i x y 0 _ rfl));have s1:Cl W o (i *5+1) (Jn x.n):=(b.cell (p:=(dq o (i *5+1))) d).trans (l _ _ (cC vcs i x y 1 _ rfl));have s2:Cl W o (i *5+2) (.string x.s):=(b.cell (p:=(dq o (i *5+2))) d).trans (l _ _ (cC vcs i x y 2 _ rfl));have s3:Cl W o (i *5+3) (.pointer x.p):=(b.cell (p:=(dq o (i *5+3))) d).trans (l _ _ (cC vcs i x y 3 _ rfl));have s4:Cl W o (i *5+4) (.pointer x.f):=(b.cell (p:=(dq o (i *5+4))) d).trans (l _ _ (cC vcs i x y 4 _ rfl));have i1:(0:Int)<=(i:Int):=by omega
 have i2:(i:Int)<(vcs.length:Int):=by omega
 have h0:vcs.length<=1000000:=by have:=E.ln;omega
 have C:=ag (Q W.drew t.drew);rw[<-P] at C;have L:=ag (dL W.drew M m x r);have X:=ag H;have V:=ag t;have N:=ag I;clear h A Q r t H P E b l v1 S v3 y I;go_enter func111,ntmps111;go_wp2;rw[<-X.out];go_region_held3 (λU=>Cl U M 10 (.pointer m.fr)/\Cl U w.heap.size 2 (.string z)) (first|exact⟨q10,b2⟩|go_keep) (first|(go_at_call 178;refine C.out.mono ?_;rintro e T ⟨K,gx,J,rfl⟩;obtain rfl:W.drew=T:=K.symm;have q:=J.symm.trans N.out;obtain rfl:=pb q;clear K J q))
 all_goals
  go_wp2_with fail;refine L.out.mono ?_;rintro e T ⟨rfl,F,G⟩;have D:=ag (ei F G);clear F G;go_wp2;refine TT ?_;exact⟨rfl,D.out.1,V.out.drew.trans D.out.2 (λ_ _ h=>h)⟩
def GM(w:aa)(st er a:Int)(b:ao)(e:bo)(w':aa):Prop:=e=.returned (.agg #[Jn st,Jn er,Jn a,.string b])/\Below w.heap.size w w'
theorem sC(w:aa)(M:Nat)(m:Rm)(d:Nat)(h:aI w M m)(n:cL w m.ch d):cl 73 #[Pt M] w (GM w m.st m.er d (if m.st=1 then m.last else⟨#[]⟩)):=by
 have r:=h.lt;have k2:=kd h 2 (Jn m.st);have k3:=kd h 3 (Jn m.er);have k11:=kd h 11 (.pointer m.ch);have k16:=kd h 16 (.string m.last);have l:Hid (∀W:aa,aB (λk=>k=M) w W->cl 114 #[.pointer m.ch] W (bD (Jn d) W)):=λW p=>oN W m.ch d (n.upd h p);clear h n;by_cases c:m.st=1
 .rw[fN c];rw[c] at k2 ⊢;go_enter func73,ntmps73;go_wp2;go_region_held3 (λb=>b.cell? ⟨M,2,none⟩=some (Jn 1)/\b.cell? ⟨M,3,none⟩=some (Jn m.er)/\b.cell? ⟨M,11,none⟩=some (.pointer m.ch)) (first|go_keep) (first|(go_at_call 114;refine(l.out _ (by first|exact((TU _ w).alloc _).drew|exact(((TU _ w).alloc _).alloc _).drew|exact(((TU _ w).alloc _).drew.alloc _))).mono ?_;rintro e q ⟨rfl,rfl⟩))
  all_goals
   go_wp2;refine ff (R3 rfl _ _ w.heap.size 52 #[Jn 1,Jn m.er,Jn d,.string m.last] (0,0) _ rfl (by first|exact aw (fK _ _)|(show(World.alloc (World.alloc w _) _).heap[w.heap.size]? =_;exact aw (fK _ _))) underlying52 rfl (by kernel_rfl)) rfl ?_;exact⟨rfl,by first|exact(((fL _ w).alloc (ew _) _).alloc (by simp) _).drew|exact((fL _ w).alloc (ew _) _).alloc (by simp) _⟩
 .rw[fb c];have o:(m.st==1)=false:=by simp[c]
  go_enter func73,ntmps73;go_wp2;go_region_held3 (λb=>b.cell? ⟨M,2,none⟩=some (Jn m.st)/\b.cell? ⟨M,3,none⟩=some (Jn m.er)/\b.cell? ⟨M,11,none⟩=some (.pointer m.ch)) (first|go_keep) (first|(go_at_call 114;refine(l.out _ (by first|exact((TU _ w).alloc _).drew|exact(((TU _ w).alloc _).alloc _).drew|exact(((TU _ w).alloc _).drew.alloc _))).mono ?_;rintro e q ⟨rfl,rfl⟩))
  all_goals
   go_wp2;refine ff (R3 rfl _ _ w.heap.size 52 #[Jn m.st,Jn m.er,Jn d,.string ⟨#[]⟩] (0,0) _ rfl (by first|exact aw (fK _ _)|(show(World.alloc (World.alloc w _) _).heap[w.heap.size]? =_;exact aw (fK _ _))) underlying52 rfl (by kernel_rfl)) rfl ?_;exact⟨rfl,by first|exact(((fL _ w).alloc (ew _) _).alloc (by simp) _).drew|exact((fL _ w).alloc (ew _) _).alloc (by simp) _⟩
theorem KH(x:Int):wrap64 x=AY x:=by unfold wrap64 AY;omega
theorem RX.kd{w:aa}:∀{v:V} {c:Vc},RX w mo v c->(match v with
  |.int _=>c.k=1
  |.bool _=>c.k=2
  |.sym _=>c.k=3
  |.empty=>c.k=4
  |.pair _ _ _=>c.k=5
  |.proc _=>c.k=6\/c.k=7\/c.k=8
  |.nothing=>c.k=9)
 |.int _,_,h=>by rw[h.1];rfl
 |.bool _,_,h=>by have h:_=_:=h;rw[h];rfl
 |.sym _,_,h=>by rw[h.1];rfl
 |.empty,_,h=>by have h:_=_:=h;rw[h];rfl
 |.nothing,_,h=>by have h:_=_:=h;rw[h];rfl
 |.pair _ _ _,_,h=>by obtain⟨_,_,_,_,h,_⟩:=h;rw[h];rfl
 |.proc _,_,.inl ⟨_,_,_,_,h⟩=>by rw[h];exact .inr (.inl rfl)
 |.proc _,_,.inr ⟨_,_,_,p,_,_,h⟩=>by
  rw[h];show(if p.fr.isSome then(6:Int) else 8)=6\/_;cases p.fr.isSome<;>simp
theorem Ni{b:Vc}(h:a.k≠b.k):ci a b=false:=by
 have:(a.k==b.k)=false:=by simpa using h
 simp[ci,this]
theorem BV(hi:aP[i]? =some s)(c:aP[j]? =some s):i=j:=by
 have d:aP.Nodup:=by decide
 have h1:=(ke.1 hi);have h2:=(ke.1 c);obtain⟨e,b⟩:=h1;obtain⟨b1,b2⟩:=h2;exact(List.getElem_inj d).1 (b.trans b2.symm)
theorem Nj{w:aa}(o:∀i j g,mo i=some g->mo j=some g->i=j){v:V}{b:Vc}(h:RX w mo v a)(l:RX w mo v' b):ci a b=cj v v':=by
 have k1:=h.kd;have k2:=l.kd;cases v<;>cases v'<;>simp only at k1 k2<;>first
  |(rw[Ni (by omega)];rfl)
  |skip
 case int.int x y=>obtain⟨rfl,_⟩:=h;obtain⟨rfl,_⟩:=l;simp[ci,cj,cQ]
 case bool.bool x y=>
  have h:a=_:=h;have l:b=_:=l;subst h l;cases x<;>cases y<;>simp[ci,cj,cQ]
 case sym.sym x y=>
  obtain⟨rfl,_⟩:=h;obtain⟨rfl,_⟩:=l;simp[ci,cj,dy,C3]
 case empty.empty=>have h:a=_:=h;have l:b=_:=l;subst h l;simp[ci,cj,cQ]
 case nothing.nothing=>have h:a=_:=h;have l:b=_:=l;subst h l;simp[ci,cj,cQ]
 case pair.pair i _ _ j _ _=>
  obtain⟨g,_,_,r,rfl,_⟩:=h;obtain⟨A,_,_,e2,rfl,_⟩:=l;by_cases q:g=A
  .subst q;have:=o _ _ _ r e2;subst this;simp[ci,cj,eg]
  .have d:i≠j:=λe=>q (by subst e;rw[r] at e2;exact pb e2);simp[ci,cj,eg,q,d]
 case proc.proc i j=>
  rcases h with⟨k,s,r,e2,rfl⟩|⟨L,r,g,p,e2,e3,rfl⟩<;>rcases l with⟨G,s',E,n,rfl⟩|⟨f0,E,A,F,n,z,rfl⟩
  .by_cases t:s=s'
   .subst t;have:=BV e2 n;subst this;rw[r,E];simp[ci,cj]
   .have d:i≠j:=λe=>t (by
     have:k=G:=by omega
     subst this;rw[e2] at n;exact pb n)
    have C:(s==s')=false:=by simpa using t
    have D:(i==j)=false:=by simpa using d
    simp[ci,cj,C,D,t,d,C3]
  .have:=ej e2;have d:i≠j:=by omega
   simp[ci,cj,d]
  .have:=ej n;have d:i≠j:=by omega
   simp[ci,cj,d]
  .by_cases q:g=A
   .subst q;have:=o _ _ _ e2 n;subst this;have hp:p.fr.isSome=F.fr.isSome:=by
     unfold b9 at e3 z;rw[e3] at z;injection z with C;injection C with D;have H:=Sq (λc=>c[2]?) D;have I:some (Value.pointer p.fr)=some (Value.pointer F.fr):=H;injection I with J;injection J with K;rw[K]
    simp[ci,cj,hp]
   .have d:i≠j:=λe=>q (by subst e;rw[e2] at n;exact pb n);simp[ci,cj,q,d]
end Go.Proofs.YtlobegpjenabaaaGreatDoor
