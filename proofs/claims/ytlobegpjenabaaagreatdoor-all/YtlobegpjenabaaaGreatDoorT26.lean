import Derived.Test.YtlobegpjenabaaaGreatDoorT25
namespace Go.Proofs.YtlobegpjenabaaaGreatDoor
open Go.RowKit Tryz
set_option linter.unusedVariables false
set_option maxRecDepth 100000
set_option maxHeartbeats 4000000
variable {x:XS} {e a:X} {r:List XK} {B M made n g i f:Nat} {Y:a9} {ow mo mf:Nat->Option Nat} {fx es:List X} {m:Rm} {z:BS} {vs got:List V} {t s:au} {w1 w':aa} {cs bs:List Vc} {ps:Vc} {ns:List au} {k:Kc} {α:Type} {ka:XK}
theorem JK(w:aa)(M:Nat)(m:Rm)(h:aI w M m)(h3:(m.v.k==3)=false)(l:(m.v.k==5)=false):cl 111 #[Pt M] w (MU w M {m with mode:=2}):=by
 have o:=h.lt;have q:=kd h 5 (Jn m.v.k);have k6:=kd h 6 (Jn m.v.n);have u:=kd h 7 (.string m.v.s);have y:=kd h 8 (.pointer m.v.p);have A:=kd h 9 (.pointer m.v.f);have j:=ag (λob=>dL (w.alloc ob) M m m.v (h.alloc ob));clear h;go_enter func111,ntmps111;go_wp2_with fail;refine(j.out _).mono ?_;rintro e C ⟨rfl,c,d⟩;have b:=ag (ei c d);clear c d;go_wp2;refine TT ?_;exact⟨rfl,b.out.1,((TU _ w).alloc _).trans b.out.2 (λ_ _ h=>h)⟩
def KL(w:aa)(Y:a9)(M:Nat)(m:Rm)(cs:List Vc)(u:Sl)(w1:aa):Prop:=LR w1 Y u cs/\aI w1 M m/\Below w.heap.size w w1
theorem CQ(w:aa)(Y:a9)(M g:Nat)(m:Rm)(cs:List Vc)(h:aI w M m)(o:m.v=eg g)(O:eC w (eg g) cs)(F:cs.length<=1000)(K:∀k,w.heap.size<=k->¬Y k)(q:Vc)(l:cs=[dy kL,q]):cl 111 #[Pt M] w (MU w M {m with mode:=2,v:=q}):=by
 have hl:=h.lt;have k5:=kv h o 5 (Jn 5);have k6:=kv h o 6 (Jn 0);have k7:=kv h o 7 (.string ⟨#[]⟩);have k8:=kv h o 8 (Pt g);have k9:=kv h o 9 (.pointer none);have J:Hid (∀ob,cl 66 #[.agg #[Jn 5,Jn 0,.string ⟨#[]⟩,Pt g,.pointer none]] (w.alloc ob) (λe w1=>∃u:Sl,e=.returned (.tuple #[.slice u.a u.n u.c,.bool true])/\KL w Y M m cs u w1)):=λob=>by
  have hb:Below w.heap.size w (w.alloc ob):=aR _ _;refine(dM cs (eg g) (w.alloc ob) (T4 (T6 hb) _ _ O) F).mono ?_;rintro e w1 ⟨v,rfl,hr,j⟩;obtain⟨u,rfl,W⟩:=hr.lr (Y:=Y) (λk Z _=>K k (by simp at Z;omega));have D:Below w.heap.size w w1:=hb.trans (j.mono (by simp));exact⟨u,rfl,W,(D.block M hl).trans h,D⟩
 have L:Iz cs=kL:=by rw[l];rfl
 clear h o O;go_enter func111,ntmps111;go_wp2_with fail;refine(J.out _).mono ?_;rintro e w1 ⟨u,rfl,b,y,j⟩;have d:=ag (gL w1 Y u cs b);rw[L] at d;have H:u.n=cs.length:=b.1;have N:u.n<=u.c:=b.2.1;obtain⟨gl,ol,E,X,_,R,S,T,U,V⟩:=b.at (i:=1) (v:=q) (by rw[l];rfl);rw[PS] at R S T U V;have G:u.n=2:=by rw[H,l];rfl
 obtain⟨ua,un,uc⟩:=u;simp only at E G N d;subst E G;have P:=ag (dL w1 M m q y);have Q:=ag (TW (λk=>k=M) j);unfold kL at d;clear b y j H;go_wp2_with fail;refine d.out.mono ?_;rintro e w2 ⟨rfl,I⟩;obtain rfl:w1=w2:=I.symm;clear I;go_wp2_with fail;refine P.out.mono ?_;rintro e w9 ⟨rfl,A,C⟩;have p:=ag (ei A C);clear A C;go_wp2;refine TT ?_;exact⟨rfl,p.out.1,Q.out.trans p.out.2 (λ_ _ h=>h)⟩
def PG(w:aa)(Y:a9)(M:Nat)(m:Rm)(kind:Int)(cs:List Vc)(x:Vc)(d:Nat)(w':aa):Prop:=∃(u:Sl) (w1:aa),LR w1 Y u cs/\aB (λk=>k=M) w w1/\KR w w1/\ft w1 M m ⟨kind,⟨#[]⟩,u,ef,none,none,0⟩ x d w'
theorem D6(w:aa)(Y:a9)(M g:Nat)(m:Rm)(cs:List Vc)(h:aI w M m)(y:m.v=eg g)(S:eC w (eg g) cs)(E:cs.length<=1000)(L:∀k,w.heap.size<=k->¬Y k)(x:Vc)(d:Nat)(Q:cs[1]? =some x)(T:cL w m.ch d)(l:List Vc)(N:cs=dy Qg::l):cl 111 #[Pt M] w (cA (PG w Y M m 1 cs x d)):=by
 have hl:=h.lt;have k5:=kv h y 5 (Jn 5);have k6:=kv h y 6 (Jn 0);have k7:=kv h y 7 (.string ⟨#[]⟩);have k8:=kv h y 8 (Pt g);have k9:=kv h y 9 (.pointer none);have I:Hid (∀ob,cl 66 #[.agg #[Jn 5,Jn 0,.string ⟨#[]⟩,Pt g,.pointer none]] (w.alloc ob) (λe w1=>∃u:Sl,e=.returned (.tuple #[.slice u.a u.n u.c,.bool true])/\KL w Y M m cs u w1)):=λob=>by
  have hb:Below w.heap.size w (w.alloc ob):=aR _ _;refine(dM cs (eg g) (w.alloc ob) (T4 (T6 hb) _ _ S) E).mono ?_;rintro e w1 ⟨v,rfl,hr,o⟩;obtain⟨u,rfl,hL⟩:=hr.lr (Y:=Y) (λk hk _=>L k (by simp at hk;omega));have C:Below w.heap.size w w1:=hb.trans (o.mono (by simp));exact⟨u,rfl,hL,(C.block M hl).trans h,C⟩
 have O:Iz cs=Qg:=by rw[N];rfl
 have H:Hid (∀w1,Below w.heap.size w w1->cL w1 m.ch d):=λw1 hb=>T.upd h (TW _ hb);clear h y S;go_enter func111,ntmps111;go_wp2_with fail;refine(I.out _).mono ?_;rintro e w1 ⟨u,rfl,j,A,o⟩;have p:=ag (gL w1 Y u cs j);rw[O] at p;have F:u.n=cs.length:=j.1;have P:u.n<=u.c:=j.2.1;obtain⟨gl,ol,D,h0,_,U,V,W,X,Z⟩:=j.at Q;rw[PS] at U V W X Z;have h1:=(ke.1 Q).1;have q:=ag (ei j (ei (TW (λk=>k=M) o) (T6 o)));have R:=ag (eu w1 M m ⟨1,⟨#[]⟩,u,ef,none,none,0⟩ x d A (H.out w1 o));obtain⟨ua,un,uc⟩:=u;simp only at D F P p;subst D;unfold Kc.c Vc.c ef at R;have i2:((1:Nat):Int)<(un:Int):=by omega
 have i3:(1:Int)<(un:Int):=by omega
 unfold Qg at p;clear j A o F Q T;go_wp2_with fail;refine p.out.mono ?_;rintro e w2 ⟨rfl,G⟩;obtain rfl:w1=w2:=G.symm;clear G;go_wp2_with fail;refine R.out.mono ?_;intro e w9 K;obtain rfl:=K.ret;have J:=ag (K.b (w:=w1) (TU _ _));clear K;go_wp2;refine TT ?_;exact⟨rfl,_,w1,q.out.1,q.out.2.1,q.out.2.2,J.out⟩
theorem JI(w:aa)(Y:a9)(M g:Nat)(m:Rm)(cs:List Vc)(h:aI w M m)(y:m.v=eg g)(T:eC w (eg g) cs)(E:cs.length<=1000)(L:∀k,w.heap.size<=k->¬Y k)(x:Vc)(d:Nat)(R:cs[0]? =some x)(U:cL w m.ch d)(c:Vc)(l:List Vc)(N:cs=c::l)(P:N8 c):cl 111 #[Pt M] w (cA (PG w Y M m 5 cs x d)):=by
 have hl:=h.lt;have k5:=kv h y 5 (Jn 5);have k6:=kv h y 6 (Jn 0);have k7:=kv h y 7 (.string ⟨#[]⟩);have k8:=kv h y 8 (Pt g);have k9:=kv h y 9 (.pointer none);have I:Hid (∀ob,cl 66 #[.agg #[Jn 5,Jn 0,.string ⟨#[]⟩,Pt g,.pointer none]] (w.alloc ob) (λe w1=>∃u:Sl,e=.returned (.tuple #[.slice u.a u.n u.c,.bool true])/\KL w Y M m cs u w1)):=λob=>by
  have hb:Below w.heap.size w (w.alloc ob):=aR _ _;refine(dM cs (eg g) (w.alloc ob) (T4 (T6 hb) _ _ T) E).mono ?_;rintro e w1 ⟨v,rfl,hr,o⟩;obtain⟨u,rfl,hL⟩:=hr.lr (Y:=Y) (λk hk _=>L k (by simp at hk;omega));have C:Below w.heap.size w w1:=hb.trans (o.mono (by simp));exact⟨u,rfl,hL,(C.block M hl).trans h,C⟩
 have O:Iz cs=[]:=by rw[N];exact BY P
 have H:Hid (∀w1,Below w.heap.size w w1->cL w1 m.ch d):=λw1 hb=>U.upd h (TW _ hb);clear h y T;go_enter func111,ntmps111;go_wp2_with fail;refine(I.out _).mono ?_;rintro e w1 ⟨u,rfl,j,A,o⟩;have p:=ag (gL w1 Y u cs j);rw[O] at p;have F:u.n=cs.length:=j.1;have Q:u.n<=u.c:=j.2.1;obtain⟨gl,ol,D,h0,_,V,W,X,Z,a4⟩:=j.at R;rw[v7,rn] at V W X Z a4;have h1:=(ke.1 R).1;have q:=ag (ei j (ei (TW (λk=>k=M) o) (T6 o)));have S:=ag (eu w1 M m ⟨5,⟨#[]⟩,u,ef,none,none,0⟩ x d A (H.out w1 o));obtain⟨ua,un,uc⟩:=u;simp only at D F Q p;subst D;unfold Kc.c Vc.c ef at S;have i2:((0:Nat):Int)<(un:Int):=by omega
 have i3:(0:Int)<(un:Int):=by omega
 skip
 clear j A o F R U;go_wp2_with fail;refine p.out.mono ?_;rintro e w2 ⟨rfl,G⟩;obtain rfl:w1=w2:=G.symm;clear G;go_wp2_with fail;refine S.out.mono ?_;intro e w9 K;obtain rfl:=K.ret;have J:=ag (K.b (w:=w1) (TU _ _));clear K;go_wp2;refine TT ?_;exact⟨rfl,_,w1,q.out.1,q.out.2.1,q.out.2.2,J.out⟩
theorem pC(w:aa)(Y:a9)(M g:Nat)(m:Rm)(cs:List Vc)(h:aI w M m)(o:m.v=eg g)(K:eC w (eg g) cs)(A:cs.length<=1000)(F:∀k,w.heap.size<=k->¬Y k)(l:List Vc)(G:cs=dy mX::l)(P:aa->Prop)(J:∀(w1:aa) (u:Sl),KL w Y M m cs u w1->cl 182 #[Pt M,.slice u.a u.n u.c] w1 (cA P)):cl 111 #[Pt M] w (cA P):=by
 have Q:=h.lt;have U:=kv h o 5 (Jn 5);have k6:=kv h o 6 (Jn 0);have V:=kv h o 7 (.string ⟨#[]⟩);have W:=kv h o 8 (Pt g);have X:=kv h o 9 (.pointer none);have D:Hid (∀ob,cl 66 #[.agg #[Jn 5,Jn 0,.string ⟨#[]⟩,Pt g,.pointer none]] (w.alloc ob) (λe w1=>∃u:Sl,e=.returned (.tuple #[.slice u.a u.n u.c,.bool true])/\KL w Y M m cs u w1)):=λob=>by
  have hb:Below w.heap.size w (w.alloc ob):=aR _ _;refine(dM cs (eg g) (w.alloc ob) (T4 (T6 hb) _ _ K) A).mono ?_;rintro e w1 ⟨v,rfl,R,d⟩;obtain⟨u,rfl,N⟩:=R.lr (Y:=Y) (λk O _=>F k (by simp at O;omega));have y:Below w.heap.size w w1:=hb.trans (d.mono (by simp));exact⟨u,rfl,N,(y.block M Q).trans h,y⟩
 have H:Iz cs=mX:=by rw[G];rfl
 clear h o K;go_enter func111,ntmps111;go_wp2_with fail;refine(D.out _).mono ?_;rintro e w1 ⟨u,rfl,b,p,d⟩;have j:=ag (gL w1 Y u cs b);rw[H] at j;have I:u.n=cs.length:=b.1;have S:u.n<=u.c:=b.2.1;have L:=ag (J w1 u ⟨b,p,d⟩);unfold mX at j;clear b p d I J;go_wp2_with fail;refine j.out.mono ?_;rintro e T ⟨rfl,C⟩;obtain rfl:w1=T:=C.symm;clear C;go_wp2_with fail;refine L.out.mono ?_;rintro e Z ⟨rfl,q⟩;have E:=ag q;clear q;go_wp2;refine TT ?_;exact⟨rfl,E.out⟩
theorem JJ(w:aa)(Y:a9)(M g:Nat)(m:Rm)(cs:List Vc)(h:aI w M m)(o:m.v=eg g)(K:eC w (eg g) cs)(A:cs.length<=1000)(F:∀k,w.heap.size<=k->¬Y k)(l:List Vc)(G:cs=dy Mc::l)(P:aa->Prop)(J:∀(w1:aa) (u:Sl),KL w Y M m cs u w1->cl 185 #[Pt M,.slice u.a u.n u.c] w1 (cA P)):cl 111 #[Pt M] w (cA P):=by
 have Q:=h.lt;have U:=kv h o 5 (Jn 5);have k6:=kv h o 6 (Jn 0);have V:=kv h o 7 (.string ⟨#[]⟩);have W:=kv h o 8 (Pt g);have X:=kv h o 9 (.pointer none);have D:Hid (∀ob,cl 66 #[.agg #[Jn 5,Jn 0,.string ⟨#[]⟩,Pt g,.pointer none]] (w.alloc ob) (λe w1=>∃u:Sl,e=.returned (.tuple #[.slice u.a u.n u.c,.bool true])/\KL w Y M m cs u w1)):=λob=>by
  have hb:Below w.heap.size w (w.alloc ob):=aR _ _;refine(dM cs (eg g) (w.alloc ob) (T4 (T6 hb) _ _ K) A).mono ?_;rintro e w1 ⟨v,rfl,R,d⟩;obtain⟨u,rfl,N⟩:=R.lr (Y:=Y) (λk O _=>F k (by simp at O;omega));have y:Below w.heap.size w w1:=hb.trans (d.mono (by simp));exact⟨u,rfl,N,(y.block M Q).trans h,y⟩
 have H:Iz cs=Mc:=by rw[G];rfl
 clear h o K;go_enter func111,ntmps111;go_wp2_with fail;refine(D.out _).mono ?_;rintro e w1 ⟨u,rfl,b,p,d⟩;have j:=ag (gL w1 Y u cs b);rw[H] at j;have I:u.n=cs.length:=b.1;have S:u.n<=u.c:=b.2.1;have L:=ag (J w1 u ⟨b,p,d⟩);unfold Mc at j;clear b p d I J;go_wp2_with fail;refine j.out.mono ?_;rintro e T ⟨rfl,C⟩;obtain rfl:w1=T:=C.symm;clear C;go_wp2_with fail;refine L.out.mono ?_;rintro e Z ⟨rfl,q⟩;have E:=ag q;clear q;go_wp2;refine TT ?_;exact⟨rfl,E.out⟩
theorem CP(w:aa)(Y:a9)(M g:Nat)(m:Rm)(cs:List Vc)(h:aI w M m)(E:m.v=eg g)(V:eC w (eg g) cs)(I:cs.length<=1000)(R:∀k,w.heap.size<=k->¬Y k)(l:List Vc)(C:cs=dy kK::l)(h3:0<l.length)(P:aa->Prop)(T:∀(w1:aa) (u:Sl),aB (λk=>k=M) w w1->KR w w1->aI w1 M m->LR w1 Y u l->cl 184 #[Pt M,.slice u.a u.n u.c,.pointer m.fr] w1 (cA P))(U:∀w',P w'->Cl w' M 10 (.pointer m.fr)):cl 111 #[Pt M] w (cA P):=by
 have hl:=h.lt;have k5:=kv h E 5 (Jn 5);have k6:=kv h E 6 (Jn 0);have k7:=kv h E 7 (.string ⟨#[]⟩);have k8:=kv h E 8 (Pt g);have k9:=kv h E 9 (.pointer none);have N:Hid (∀ob,cl 66 #[.agg #[Jn 5,Jn 0,.string ⟨#[]⟩,Pt g,.pointer none]] (w.alloc ob) (λe w1=>∃u:Sl,e=.returned (.tuple #[.slice u.a u.n u.c,.bool true])/\KL w Y M m cs u w1)):=λob=>by
  have hb:Below w.heap.size w (w.alloc ob):=aR _ _;refine(dM cs (eg g) (w.alloc ob) (T4 (T6 hb) _ _ V) I).mono ?_;rintro e w1 ⟨v,rfl,hr,p⟩;obtain⟨u,rfl,X⟩:=hr.lr (Y:=Y) (λk hk _=>R k (by simp at hk;omega));have G:Below w.heap.size w w1:=hb.trans (p.mono (by simp));exact⟨u,rfl,X,(G.block M hl).trans h,G⟩
 have H:Iz cs=kK:=by rw[C];rfl
 have Q:=ag U;clear h E V;go_enter func111,ntmps111;go_wp2_with fail;refine(N.out _).mono ?_;rintro e w1 ⟨u,rfl,d,y,p⟩;have o:=ag (gL w1 Y u cs d);rw[H] at o;have J:u.n=cs.length:=d.1;have S:u.n<=u.c:=d.2.1;rw[C] at d;obtain⟨gl,ol,D,h0,_,_⟩:=d.at (i:=0) (v:=dy kK) rfl;have j:Below w.heap.size w w1.drew:=p.drew;have F:LR w1.drew Y u (dy kK::l):=d.ak (λb _ hn=>⟨hn,rfl⟩);have L:=ag (T w1.drew ⟨some (dq gl (ol+5)),l.length,u.c-1⟩ (TW _ j) (T6 j) y (F.tail D));have q:u.n=l.length+1:=d.1;have q10:=kd y 10 (.pointer m.fr);obtain⟨ua,un,W⟩:=u;simp only at D J S o q L;subst D;rw[show l.length=un-1 by omega] at L;have Z:¬W=1:=by omega
 have h1:(1:Int)<=(un:Int):=by omega
 have h2:(un:Int)<=(W:Int):=by omega
 unfold kK at o;clear d y p J T U q j F C H;go_wp2_with fail;refine o.out.mono ?_;rintro e w2 ⟨rfl,K⟩;obtain rfl:w1=w2:=K.symm;clear K;go_wp2;go_region_held3 (λwx=>Cl wx M 10 (.pointer m.fr)) (first|exact q10|go_keep) (first|(go_at_call 184;refine L.out.mono ?_;rintro e w9 ⟨rfl,A⟩;have q10:=Q.out w9 A;have O:=ag A;clear A))
 all_goals
  go_wp2;refine TT ?_;exact⟨rfl,O.out⟩
def QY(w:aa)(M:Nat)(m:Rm)(t:au)(x:Vc)(d:Nat)(w':aa):Prop:=∃w1:aa,aB (λk=>k=M) w w1/\KR w w1/\ft w1 M m ⟨3,⟨t.toArray⟩,ef,ef,none,none,0⟩ x d w'
theorem JL(w:aa)(Y:a9)(M g:Nat)(m:Rm)(cs:List Vc)(h:aI w M m)(J:m.v=eg g)(hC:eC w (eg g) cs)(R:cs.length<=1000)(h0:∀k,w.heap.size<=k->¬Y k)(t:au)(x:Vc)(d:Nat)(G:cs=[dy Md,dy t,x])(hD:cL w m.ch d):cl 111 #[Pt M] w (cA (QY w M m t x d)):=by
 have hl:=h.lt;have k5:=kv h J 5 (Jn 5);have k6:=kv h J 6 (Jn 0);have k7:=kv h J 7 (.string ⟨#[]⟩);have k8:=kv h J 8 (Pt g);have k9:=kv h J 9 (.pointer none);have X:Hid (∀ob,cl 66 #[.agg #[Jn 5,Jn 0,.string ⟨#[]⟩,Pt g,.pointer none]] (w.alloc ob) (λe w1=>∃u:Sl,e=.returned (.tuple #[.slice u.a u.n u.c,.bool true])/\KL w Y M m cs u w1)):=λob=>by
  have hb:Below w.heap.size w (w.alloc ob):=aR _ _;refine(dM cs (eg g) (w.alloc ob) (T4 (T6 hb) _ _ hC) R).mono ?_;rintro e w1 ⟨v,rfl,hr,D⟩;obtain⟨u,rfl,hL⟩:=hr.lr (Y:=Y) (λk hk _=>h0 k (by simp at hk;omega));have P:Below w.heap.size w w1:=hb.trans (D.mono (by simp));exact⟨u,rfl,hL,(P.block M hl).trans h,P⟩
 have Q:Iz cs=Md:=by rw[G];rfl
 have W:Hid (∀w1,Below w.heap.size w w1->cL w1 m.ch d):=λw1 hb=>hD.upd h (TW _ hb);clear h J hC;go_enter func111,ntmps111;go_wp2_with fail;refine(X.out _).mono ?_;rintro e w1 ⟨u,rfl,j,C,D⟩;have A:=ag (gL w1 Y u cs j);rw[Q] at A;have S:u.n=cs.length:=j.1;have h3:u.n<=u.c:=j.2.1;rw[G] at j;obtain⟨gl,q,H,h2,h7,_,_,I,_,_⟩:=j.at (i:=1) (v:=dy t) rfl;obtain⟨h5,h8,E,_,_,b0,b1,b2,b3,b4⟩:=j.at (i:=2) (v:=x) rfl;rw[H] at E;cases E;rw[PS] at I;obtain⟨z,hz⟩:∃z:ao,z=⟨t.toArray⟩:=⟨_,rfl⟩;simp only[dy] at I;rw[<-hz] at I;have l:Below w.heap.size w w1.drew:=D.drew;have HB:=ag (eu w1.drew M m ⟨3,z,ef,ef,none,none,0⟩ x d C (W.out w1.drew l));have F:u.n=3:=j.1;obtain⟨ua,un,uc⟩:=u;simp only at H S h3 A F;subst H F;unfold Kc.c Vc.c ef at HB;have h6:gl≠M\/True:=.inr trivial;have L:=ag (ei (TW (λk=>k=M) l) (T6 l));have h4:=ag C;have HZ:=ag hz;unfold Md at A;by_cases N:gl=M
 .exfalso;subst N;have h1:=C;obtain⟨g2,o2,cu,e1,e2,_⟩:=j.2.2.2 (by simp);simp only[SD,Addr.mk.injEq] at e1;obtain⟨rfl,_⟩:=e1;exact bB h1 e2 (by decide) rfl
 have V:Hid (∀y,aB (λk=>k=M) w1.drew y->Cl y gl (q+5+2) (.string z)/\Cl y gl (q+10) (Jn x.k)/\Cl y gl (q+10+1) (Jn x.n)/\Cl y gl (q+10+2) (.string x.s)/\Cl y gl (q+10+3) (.pointer x.p)/\Cl y gl (q+10+4) (.pointer x.f)):=λy hu=>by
  have e:∀(o:Nat),y.cell? (dq gl o)=w1.cell? (dq gl o):=λo=>xo (a:=(dq gl o)) (hu.block gl h2 N);exact⟨(e _).trans I,(e _).trans b0,(e _).trans b1,(e _).trans b2,(e _).trans b3,(e _).trans b4⟩
 clear j C D S l G Q hD hz;go_wp2_with fail;refine A.out.mono ?_;rintro e w2 ⟨rfl,T⟩;obtain rfl:w1=w2:=T.symm;clear T;go_wp2;go_region_held3 (λK=>Cl K gl (q+5+2) (.string z)/\Cl K gl (q+10) (Jn x.k)/\Cl K gl (q+10+1) (Jn x.n)/\Cl K gl (q+10+2) (.string x.s)/\Cl K gl (q+10+3) (.pointer x.p)/\Cl K gl (q+10+4) (.pointer x.f)) (first|exact⟨I,b0,b1,b2,b3,b4⟩|go_keep) (first|(go_at_call 181;refine HB.out.mono ?_;intro e y U;obtain rfl:=U.ret;have O:=U.b (w:=w1.drew) (TU _ _);obtain⟨I,b0,b1,b2,b3,b4⟩:=V.out y U.upd;have Z:=ag O;clear U O))
 all_goals
  go_wp2;refine TT ?_;refine⟨rfl,w1.drew,L.out.1,L.out.2,?_⟩;rw[<-HZ.out];exact Z.out
def QP(w:aa)(Y:a9)(M:Nat)(m:Rm)(ns:List au)(bs:List Vc)(w':aa):Prop:=∃(G:Nat) (un body:Sl),w.heap.size<=G/\b9 w' G ⟨un,body,m.fr,none,0⟩/\LR w' Y body bs/\w'.ownsRow w.heap.size 9 1 (.slice un.a un.n un.c) ns.length (ns.map bO)/\(ns.length=0->un=⟨none,0,0⟩)/\aI w' M {m with mode:=2,v:=⟨6,0,⟨#[]⟩,none,eb G⟩}/\aB (λk=>k=M) w w'
theorem Al(w:aa)(Y:a9)(M g:Nat)(m:Rm)(cs:List Vc)(h:aI w M m)(Z:m.v=eg g)(hC:eC w (eg g) cs)(hd:cs.length<=1000)(hp:∀k,w.heap.size<=k->¬Y k)(ps:Vc)(ns:List au)(bs:List Vc)(Q:cs=dy cz::ps::bs)(hB:0<bs.length)(he:eC w ps (ns.map dy))(ht:ns.length<=1000)(h7:Y M):cl 111 #[Pt M] w (cA (QP w Y M m ns bs)):=by
 have hl:=h.lt;have k5:=kv h Z 5 (Jn 5);have k6:=kv h Z 6 (Jn 0);have k7:=kv h Z 7 (.string ⟨#[]⟩);have k8:=kv h Z 8 (Pt g);have k9:=kv h Z 9 (.pointer none);have hm:Hid (∀ob,cl 66 #[.agg #[Jn 5,Jn 0,.string ⟨#[]⟩,Pt g,.pointer none]] (w.alloc ob) (λe w1=>∃u:Sl,e=.returned (.tuple #[.slice u.a u.n u.c,.bool true])/\KL w Y M m cs u w1)):=λob=>by
  have hb:Below w.heap.size w (w.alloc ob):=aR _ _;refine(dM cs (eg g) (w.alloc ob) (T4 (T6 hb) _ _ hC) hd).mono ?_;rintro e w1 ⟨v,rfl,hr,E⟩;obtain⟨u,rfl,hL⟩:=hr.lr (Y:=Y) (λk hk _=>hp k (by simp at hk;omega));have h8:Below w.heap.size w w1:=hb.trans (E.mono (by simp));exact⟨u,rfl,hL,(h8.block M hl).trans h,h8⟩
 have hc:Iz cs=cz:=by rw[Q];rfl
 have ho:=ag he;clear h Z hC;go_enter func111,ntmps111;go_wp2_with fail;refine(hm.out _).mono ?_;rintro e w1 ⟨u,rfl,l,J,E⟩;have I:=ag (gL w1 Y u cs l);rw[hc] at I;have hf:u.n=cs.length:=l.1;have hu:u.n<=u.c:=l.2.1;rw[Q] at l;obtain⟨gl,F,R,D,hs,S,T,U,V,W⟩:=l.at (i:=1) (v:=ps) rfl;rw[PS] at S T U V W;have ha:gl≠M:=λe=>hs (e▸h7);have L:Below w.heap.size w w1.drew:=E.drew;have h1:=(l.tail R).tail rfl;have N:u.n=bs.length+2:=l.1;obtain⟨body,j⟩:∃b:Sl,b=⟨some (dq gl (F+10)),u.n-2,u.c-2⟩:=⟨_,rfl⟩;have h3:LR w1 Y body bs:=by
  rw[j,show u.n-2=bs.length by omega];exact h1
 have H:=ag (CI w1.drew ps ns body m.fr (T4 (T6 L) _ _ ho.out) ht);rw[j] at H;have q10:=kd J 10 (.pointer m.fr);have K:=J.lt;obtain⟨ua,un,uc⟩:=u;simp only at R hf hu I N H j;subst R;have hx:¬uc=2:=by omega
 have hy:(2:Int)<=(un:Int):=by omega
 have hz:(1:Int)<(un:Int):=by omega
 have hA:(un:Int)<=(uc:Int):=by omega
 unfold cz at I;unfold Vc.c at H;have hn:=ag h3;have hi:=ag j;have O:=ag (ei J E);clear l J E hf N L Q hc h1 h3 j he;go_wp2_with fail;refine I.out.mono ?_;rintro e w2 ⟨rfl,hg⟩;obtain rfl:w1=w2:=hg.symm;clear hg;go_wp2;go_region_held3 (λwx=>Cl wx M 10 (.pointer m.fr)/\Cl wx gl (F+5) (Jn ps.k)/\Cl wx gl (F+5+1) (Jn ps.n)/\Cl wx gl (F+5+2) (.string ps.s)/\Cl wx gl (F+5+3) (.pointer ps.p)/\Cl wx gl (F+5+4) (.pointer ps.f)) (first|exact⟨q10,S,T,U,V,W⟩|go_keep) (first|(go_at_call 183;refine H.out.mono ?_;rintro e w3 ⟨G,un3,rfl,hG,h6,h5,h4,C⟩;have d:Below w1.heap.size w1 w3:=((fL w1.heap.size w1).drew).trans C;have q10:Cl w3 M 10 (.pointer m.fr):=(d.cell (p:=(dq M 10)) K).trans q10;have S:=(d.cell (p:=(dq gl (F+5))) D).trans S;have T:=(d.cell (p:=(dq gl (F+5+1))) D).trans T;have U:=(d.cell (p:=(dq gl (F+5+2))) D).trans U;have V:=(d.cell (p:=(dq gl (F+5+3))) D).trans V;have W:=(d.cell (p:=(dq gl (F+5+4))) D).trans W;have h9:gl<w3.heap.size:=gr D d.size;have A:=ag (ei hG (ei h6 (ei h5 (ei h4 d))));have hj:=ag (dL w3 M m ⟨6,0,⟨#[]⟩,none,eb G⟩ ((d.block M K).trans O.out.1));clear hG h6 h5 h4 C d)|(go_at_call 180;refine hj.out.mono ?_;rintro e w9 ⟨rfl,P,y⟩;have q10:Cl w9 M 10 (.pointer m.fr):=P.cell 10;have X:∀(o:Nat),w9.cell? (dq gl o)=w3.cell? (dq gl o):=λo=>xo (a:=(dq gl o)) (y.block gl h9 ha);have S:=(X _).trans S;have T:=(X _).trans T;have U:=(X _).trans U;have V:=(X _).trans V;have W:=(X _).trans W;have h0:=ag (ei P y);clear P y X))
 all_goals
  go_wp2;refine TT ?_;have C:=A.out.2.2.2.2;have y:=h0.out.2;have hh:=O.out.2.size;have hD:=C.size;have hw:w1.heap.size<=G:=A.out.1;refine⟨rfl,G,un3,body,by omega,?_,?_,?_,A.out.2.2.2.1,h0.out.1,?_⟩
  .rw[hi.out];exact y.at A.out.2.1 (by omega)
  .exact(hn.out.below C).mi h7 y
  .exact ba (aq A.out.2.2.1 y (λq hq e=>by have:=(ar A.out.2.2.1 hq).1;have h2:w1.heap.size<=q:=this;omega)) (show w.heap.size<=w1.heap.size from hh)
  .exact(TW _ (O.out.2.trans (C.mono hh))).trans y (λ_ _ h=>h)
theorem wR(b:x.md=.ev e){r:XR}(c:Gq x e=r):A7 x r:=.inl (by unfold dG;rw[b];exact c)
theorem vX(b:x.md=.ev e):x.md.cost=0:=by rw[b];rfl
theorem OF{w:aa}(h:RC B w Y ow mo mf M fx m x)(b:aI w M m)(D:GX z vs x)(p:m.made=(made:Int))(l:x.md=.ev (.var t))(F:m.v=dy t)(hf:FP mf x.fr m.fr)(A:nI fx m x):cl 111 #[Pt M] w (cA (lf B w Y ow M fx x n made)):=by
 have y:x.fr<x.frs.length:=by obtain⟨g,h1,_⟩:=hf;exact h.fdm _ _ h1
 have u:=λW (d:aB (λk=>k=M) w W)=>Am W mf x.frs x.fr m.fr t y hf (h.Rk b D d);have E:=vX l;cases hx:eG x.frs (x.fr+1) x.fr t with
 |none=>
  rw[hx] at u;refine(JM w mf M m t b F u).mono ?_;rintro e w' ⟨rfl,j,d⟩;exact⟨rfl,h.fail b d _ j 5 _ (wR l (by simp only[Gq,hx];rfl)) ⟨rfl,rfl,rfl⟩ (h.ch.deep.upd b d) (by rw[E];exact p)⟩
 |some q=>
  obtain⟨C,i⟩:=q;rw[hx] at u;obtain⟨fr,h1,h2⟩:=l5 hx;obtain⟨g,f,vcs,K,N,G,H,_⟩:=h.fr C fr h1;have hi:=cy (ic _ _ _ h2);have L:=fU.length H;have J:=G.ln;have o:fr.vs[i]? =some fr.vs[i]:=fA (by omega);obtain⟨c,I,e2⟩:=fU.get i _ H o;refine(JN w 0 mf M g C i m t f fr.ns vcs c b F K G I (D.len h1) u).mono ?_;rintro e w' ⟨rfl,j,d⟩;exact⟨rfl,h.arm b d _ j {x with md:=.back fr.vs[i]} 0 (kc _) (wR l (by simp only[Gq,hx,h1,o];rfl)) ⟨rfl,rfl,h.st.1,h.st.2⟩ rfl ⟨rfl,rfl,rfl⟩ (by rw[E];exact p) (iU.ak (h.kr b d) (TV _) (TV _) (h.sW b d) _ _ h.ch) h.la ⟨rfl,T5 (h.kr b d) (TV _) _ _ e2,A⟩⟩
theorem RC.seq{w:aa}(h:RC B w Y ow mo mf M fx m x)(v:aI w M m)(C:GX z vs x)(p:m.made=(made:Int)){c d:Vc}{b:X}(q:x.md=.ev (.seq (a::b::es)))(G:aB (λk=>k=M) w w1)(u:Sl)(D:LR w1 Y u (c::d::cs))(hp:ft w1 M m ⟨4,⟨#[]⟩,u,ef,none,none,0⟩ c x.ch.length w')(j:Nat)(A:j<=40)(F:cs.length<1000)(E:XX w mo j c a)(hb:XX w mo j d b)(l:XL w mo j cs es)(hf:FP mf x.fr m.fr)(o:nI fx m x):lf B w Y ow M fx x n made w':=
 h.zZ v q (.rest x.fr (b::es)) a rfl G ⟨4,⟨#[]⟩,u,ef,none,none,0⟩ c hp (λW k y=>⟨rfl,hf,j,c,d::cs,A,D.mi (h.yM v) y,by simp,by simp;omega,.cons _ _ _ _ _ (hb.ak k (TV _)) (l.ak k (TV _))⟩) j A (λW k y=>E.ak k (TV _)) hf o p C.ch
def QH(w:aa)(Y:a9)(M:Nat)(m:Rm)(l:List Vc)(d:Nat)(w':aa):Prop:=(∃c,l=[c]/\aI w' M {m with mode:=1,v:=c}/\aB (λk=>k=M) w w')\/∃c c2 cs u w1,l=c::c2::cs/\aB (λk=>k=M) w w1/\LR w1 Y u l/\ft w1 M m ⟨4,⟨#[]⟩,u,ef,none,none,0⟩ c d w'
theorem Im{w:aa}(h:RC B w Y ow mo mf M fx m x)(o:aI w M m)(L:GX z vs x)(E:m.made=(made:Int))(y:x.md=.ev e)(O:m.v=eg g)(K:eC w (eg g) (dy kK::bs))(p:(dy kK::bs).length<=1000)(Q:n+1<=40)(hB:XB w mo n bs e)(hf:FP mf x.fr m.fr)(D:nI fx m x):cl 111 #[Pt M] w (cA (lf B w Y ow M fx x (n+1) made)):=by
 have F:0<bs.length:=by cases hB<;>simp
 refine(CP w Y M g m _ o O K p (h.yb o) bs rfl F (QH w Y M m bs x.ch.length) (λw1 u l P C A=> ?_) (λw' hp=> ?_)).mono ?_
 .cases hB with
  |one _ c _ I=>
   refine(sE w1 M m Y u c m.fr C A).mono ?_;rintro e w' ⟨rfl,j,H⟩;exact⟨rfl,.inl ⟨c,rfl,j,l.trans H (λ_ _ h=>h)⟩⟩
  |seq _ c d cs a b es h1 h2 h3=>
   refine(oP w1 M m Y u c d cs m.fr x.ch.length C A (h.yM o) (h.ch.deep.upd o l)).mono ?_;rintro e w' ⟨rfl,hp⟩;exact⟨rfl,.inr ⟨c,d,cs,u,w1,rfl,l,A,hp⟩⟩
 .rcases hp with⟨c,_,j,_⟩|⟨c,c2,cs,u,w1,_,_,_,hp⟩
  .exact j.cell 10
  .unfold ft at hp;split at hp
   .obtain⟨_,_,_,j,_⟩:=hp;exact j.cell 10
   .exact hp.1.cell 10
 .rintro e w' ⟨rfl,hp⟩;refine⟨rfl,?_⟩;cases hB with
  |one _ c _ I=>
   rcases hp with⟨G,q,j,l⟩|⟨G,c2,cs,u,w1,q,_⟩
   .cases q;obtain⟨h1,N⟩:=h.M3 o l _ j x ⟨rfl,rfl,h.st.1,h.st.2⟩ rfl ⟨rfl,rfl,rfl⟩ (iU.ak (h.kr o l) (TV _) (TV _) (h.sW o l) _ _ h.ch) h.la;exact⟨Y,ow,N,.inl ⟨n,by omega,by rw[y];rfl,mo,mf,_,j,h1,by rw[y];exact⟨rfl,by omega,I.ak (h.kr o l) (TV _),hf,D⟩,E⟩⟩
   .cases q
  |seq _ c d cs a b es h1 h2 h3=>
   rcases hp with⟨G,q,j,l⟩|⟨G,c2,J,u,w1,q,l,A,hp⟩
   .cases q
   .cases q;exact h.seq o L E y l u A hp n (by omega) (by simp at p;omega) h1 h2 h3 hf D
theorem ES{w:aa}(h:RC B w Y ow mo mf M fx m x)(d:aI w M m)(T:GX z vs x)(D:m.made=(made:Int))(l:x.md=.ev (.lambda ns e))(R:m.v=eg g)(L:eC w (eg g) (dy cz::ps::bs))(c:(dy cz::ps::bs).length<=1000)(U:n+1<=40)(H:eC w ps (ns.map dy))(F:ns.length<=1000)(hB:XB w mo n bs e)(hf:FP mf x.fr m.fr)(A:nI fx m x):cl 111 #[Pt M] w (cA (lf B w Y ow M fx x (n+1) made)):=by
 have o:0<bs.length:=by cases hB<;>simp
 refine(Al w Y M g m _ d R L c (h.yb d) ps ns bs rfl o H F (h.yM d)).mono ?_;rintro e' w' ⟨rfl,G,un,body,p,y,N,O,u,j,I⟩;have k:=h.kr d I;obtain⟨gf,C,b⟩:=hf;have E:mo (2 *x.obs.length)=none:=by
  cases e:mo (2 *x.obs.length) with
  |none=>rfl
  |some S=>exact absurd (h.mdm _ _ e).2 (by omega)
 have J:=fS mo _ G E;obtain⟨h1,P,_⟩:=h.obj d I _ j {x with md:=.back (.proc (2 *x.obs.length)),obs:=x.obs++[some (.clo ns e x.fr)]} ⟨rfl,rfl,h.st.1,h.st.2⟩ rfl G p (ai y) (some (.clo ns e x.fr)) ⟨rfl,rfl,rfl⟩ (λq Q=>by
  cases Q;exact⟨_,y,Jk O (h.yb d),λK=>u (by rw[K];rfl),⟨gf,C,b⟩,n,bs,by omega,N,by simp at c;omega,hB.ak k J⟩) (iU.ak k J (TV _) (h.sW d I) _ _ h.ch) h.la
 have ho:=h.o1.1;exact⟨rfl,Y,ow,P,.inr (.inl ⟨_,0,kc _,wR l rfl,_,_,_,j,h1,⟨rfl,.inr ⟨by omega,by omega,G,_,ey _ _ _,y,by rw[b];rfl⟩,A⟩,by rw[vX l];exact D⟩)⟩
theorem P8{w:aa}(h:RC B w Y ow mo mf M fx m x)(l:aI w M m)(O:GX z vs x)(C:m.made=(made:Int))(o:x.md=.ev e)(Z:n<=40)(hX:XX w mo n m.v e)(hf:FP mf x.fr m.fr)(A:nI fx m x):cl 111 #[Pt M] w (cA (lf B w Y ow M fx x n made)):=by
 generalize G:m.v=c at hX
 have hc:=vX o;have S:=h.ch.deep;have H:=h.yM l;have D:=h.yb l;have J:∀{e':bo} {w':aa} {v:V} {c:Vc},Gq x e=fX x v->MU w M {m with mode:=2,v:=c} e' w'->RX w mo v c->cA (lf B w Y ow M fx x n made) e' w':=λ{e' w' v c} hs I hr=>by
  obtain⟨rfl,h7,E⟩:=I;exact⟨rfl,h.arm l E _ h7 {x with md:=.back v} 0 (kc _) (wR o hs) ⟨rfl,rfl,h.st.1,h.st.2⟩ rfl ⟨rfl,rfl,rfl⟩ (by rw[hc];exact C) (iU.ak (h.kr l E) (TV _) (TV _) (h.sW l E) _ _ h.ch) h.la ⟨rfl,T5 (h.kr l E) (TV _) _ _ hr,A⟩⟩
 cases hX with
 |lit _ v _ h1 h2=>
  refine(JK w M m l (by rw[G];rcases h2 with e|e<;>rw[e]<;>rfl) (by rw[G];rcases h2 with e|e<;>rw[e]<;>rfl)).mono λe' w' I=>J (c:=m.v) rfl I (by rw[G];exact h1)
 |sym _ t ht=>exact OF h l O C o G hf A
 |form n g cs _ N j hI=>
  cases hI with
  |quote _ q v h1=>exact(CQ w Y M g m _ l G N j D q rfl).mono λe' w' I=>J rfl I h1
  |if3 _ a b p q h1 h2=>
   refine(D6 w Y M g m _ l G N j D a _ rfl S _ rfl).mono ?_;rintro e' w' ⟨rfl,u,w1,U,E,_,hp⟩;exact⟨rfl,h.zZ l o (.test x.fr q (.const .nothing)) p rfl E _ a hp (λW k F=>⟨rfl,hf,n,by omega,.inl ⟨_,_,_,U.mi H F,h2.ak k (TV _),rfl⟩⟩) n (by omega) (λW k _=>h1.ak k (TV _)) hf A C O.ch⟩
  |if4 _ a b d p q r h1 h2 h3=>
   refine(D6 w Y M g m _ l G N j D a _ rfl S _ rfl).mono ?_;rintro e' w' ⟨rfl,u,w1,U,E,_,hp⟩;exact⟨rfl,h.zZ l o (.test x.fr q r) p rfl E _ a hp (λW k F=>⟨rfl,hf,n,by omega,.inr ⟨_,_,_,_,U.mi H F,h2.ak k (TV _),h3.ak k (TV _)⟩⟩) n (by omega) (λW k _=>h1.ak k (TV _)) hf A C O.ch⟩
  |set _ t a p h1=>
   refine(JL w Y M g m _ l G N j D t a _ rfl S).mono ?_;rintro e' w' ⟨rfl,w1,E,_,hp⟩;exact⟨rfl,h.zZ l o (.change x.fr t) p rfl E _ a hp (λW k F=>⟨rfl,hf,rfl⟩) n (by omega) (λW k _=>h1.ak k (TV _)) hf A C O.ch⟩
  |lambda _ ps ns bs p h1 h2 h3=>exact ES h l O C o G N j Z h1 h2 h3 hf A
  |begin _ bs _ h1=>exact Im h l O C o G N j Z h1 hf A
  |defv _ t a p h1=>
   refine pC w Y M g m _ l G N j D _ rfl _ λw1 u hi=> ?_;refine(JD w1 Y M m u _ a t _ hi.2.1 hi.1 H (S.upd l (TW _ hi.2.2))).mono ?_;rintro e' w' ⟨rfl,hp⟩;exact⟨rfl,h.zZ l o (.bind x.fr t) p rfl (TW _ hi.2.2) _ a hp (λW k F=>⟨rfl,hf,rfl⟩) n (by omega) (λW k _=>h1.ak k (TV _)) hf A C O.ch⟩
  |defp _ g2 t ps ns bs p h1 h2 h3 T=>
   refine pC w Y M g m _ l G N j D _ rfl _ λw1 u hi=> ?_;have L:=TW (λk=>k=M) hi.2.2;obtain⟨c0,Q,rfl⟩:∃c0 Q,bs=c0::Q:=by cases T<;>exact⟨_,_,rfl⟩
   refine(FG w1 Y M m u _ c0 ps Q t g2 _ hi.2.1 hi.1 H ((T6 hi.2.2).pair _ _ h1) (by simp at j;omega) (S.upd l L)).mono ?_;rintro e' w' ⟨rfl,c,w2,K,h9,P,hp⟩;have E:=L.trans h9 (λ_ _ h=>h);refine⟨rfl,h.zZ l o (.bind x.fr t) (.lambda ns p) rfl E _ c hp (λW k F=>⟨rfl,hf,rfl⟩) (n+1) Z (λW k F=> ?_) hf A C O.ch⟩;obtain⟨gc,y,rfl,_⟩:=id K;exact .form n gc _ _ (T4 (Qj P F) _ _ K) (by simp at j ⊢;omega) (.lambda n ps ns _ p (T4 k _ _ h2) h3 (T.ak k (TV _)))
  |lets _ q bs ns vs2 ds p ps h1 h2 h3 T h5=>
   refine JJ w Y M g m _ l G N j D _ rfl _ λw1 u hi=> ?_;have L:=TW (λk=>k=M) hi.2.2;obtain⟨c0,R,rfl⟩:∃c0 R,ds=c0::R:=by cases T<;>exact⟨_,_,rfl⟩
   have k1:=T6 hi.2.2;refine(M5 w1 Y M m u _ q c0 R bs vs2 ns _ hi.2.1 hi.1 (λk hk=>D k (ku hi.2.2.size hk)) (T4 k1 _ _ h1) (h2.ak k1) (by simp at j;omega) h3 (S.upd l L)).mono ?_;rintro e' w' ⟨rfl,np,c,u2,w2,h8,K,h6,X,hp⟩;have P:aI w2 M m:=(X.block M hi.2.1.lt).trans hi.2.1;have E:=L.trans (TW _ X) (λ_ _ h=>h);have ha:vs2.length=bs.length:=h2.get.2.1;refine⟨rfl,h.zZ l o (.args x.fr ps []) (.lambda ns p) rfl E _ c hp (λW k F=>⟨rfl,hf,n,c::vs2,[],by omega,h6.mi H F,by simp;omega,I0 _ _,trivial,by simp,h5.ak k (TV _),λ_=>rfl⟩) (n+1) Z (λW k F=> ?_) hf A C O.ch⟩;obtain⟨gc,y,rfl,_⟩:=id K;exact .form n gc _ _ (T4 (Qj P F) _ _ K) (by simp at j ⊢;omega) (.lambda n np ns _ p (T4 (Qj P F) _ _ h8) (by rw[h2.get.1];exact h3) (T.ak k (TV _)))
  |app _ c cs p ps h0 h1 h2=>
   refine(JI w Y M g m _ l G N j D c _ rfl S c cs rfl h0).mono ?_;rintro e' w' ⟨rfl,u,w1,U,E,_,hp⟩;exact⟨rfl,h.zZ l o (.args x.fr ps []) p rfl E _ c hp (λW k F=>⟨rfl,hf,n,c::cs,[],by omega,U.mi H F,by simp at j ⊢;omega,I0 _ _,trivial,by simp,h2.ak k (TV _),λ_=>rfl⟩) n (by omega) (λW k _=>h1.ak k (TV _)) hf A C O.ch⟩
theorem wQ{v:V}{k:XK}(c:x.md=.back v)(b:x.ch=k::r){q:XR}(d:ix {x with ch:=r} v k=q):A7 x q:=.inl (by unfold dG;rw[c];simp only;rw[b];exact d)
theorem lh{v:V}(b:x.md=.back v):x.md.cost=0:=by rw[b];rfl
theorem EL(fr:XF)(s:au)(v:V):(fr.define s v).ns=Ot fr.ns s/\(fr.define s v).vs=Hb fr.ns fr.vs s v/\(fr.define s v).out=fr.out:=by
 unfold XF.define Ot Hb;cases dE fr.ns s<;>exact⟨rfl,rfl,rfl⟩
theorem fU.bd{w:aa}{v:V}{c:Vc}(ns:List au)(s:au)(h:fU w mo vs cs)(b:RX w mo v c):fU w mo (Hb ns vs s v) (Hb ns cs s c):=by
 unfold Hb;cases dE ns s with
 |none=>exact h.append ⟨b,trivial⟩
 |some i=>exact h.set i v c b
theorem ve{l:List α}{a:α}(j:Nat)(f:α)(b:(l.set i a)[j]? =some f):(l[j]? =some f/\j≠i)\/(j=i/\f=a):=by
 by_cases e:j=i
 .subst e;have c:=cy b;rw[QK (by simpa using c)] at b;exact .inr ⟨rfl,(pb b).symm⟩
 .rw[PV (λq=>e q.symm)] at b;exact .inl ⟨b,e⟩
theorem RC.bk{w:aa}(h:RC B w Y ow mo mf M fx m x)(p:aI w M m)(I:GX z vs x)(y:m.made=(made:Int)){v:V}(o:x.md=.back v)(L:RX w mo v m.v)(E:nI fx m x)(u:x.ch=ka::r)(K:m.ch=eb g)(J:di w g k)(G:iU w Y mo mf k.next r)(C:aB (λk=>k=M) w w')(b:Rm)(q:aI w' M b)(d:XS)(D:Nat)(F:D<=40)(H:ix {x with ch:=r} v ka=.ok d)(hm:b.fo=m.fo/\b.gl=m.gl/\b.st=m.st/\b.er=m.er)(j:b.out=m.out/\b.made=m.made/\b.last=m.last)(c:d.frs=x.frs/\d.obs=x.obs/\d.out=x.out/\d.last=x.last)(l:iU w' Y mo mf k.next r->iU w' Y mo mf b.ch d.ch)(A:Pr w' Y mo mf fx b d D d.md):lf B w Y ow M fx x n made w':=
 h.arm p C b q d D F (wQ o u H) ⟨hm.1,hm.2.1,by rw[hm.2.2.1];exact h.st.1,by rw[hm.2.2.2];exact h.st.2⟩ j.1 ⟨c.1,c.2.1,c.2.2.1⟩ (by rw[lh o,j.2.1];exact y) (l (iU.ak (h.kr p C) (TV _) (TV _) (h.sW p C) _ _ G)) (by rw[j.2.2,c.2.2.2];exact h.la) A
theorem Lx{w:aa}(h:RC B w Y ow mo mf M fx m x)(o:aI w M m)(hG:GX z vs x)(N:m.made=(made:Int)){v:V}(D:x.md=.back v)(S:RX w mo v m.v)(C:nI fx m x)(J:x.ch=ka::r)(I:m.ch=eb g)(G:di w g k)(W:iU w Y mo mf k.next r){b c:X}(K:ka=.test f b c)(R:KX w Y mo mf k (.test f b c)):cl 112 #[Pt M] w (cA (lf B w Y ow M fx x n made)):=by
 obtain⟨p,hf,d,U,R⟩:=R;have fin:∀{y:Vc} {e:X} {e':bo} {w':aa},(if cj v (.bool false) then c else b)=e->XX w mo d y e->MU w M {m with ch:=k.next,mode:=1,v:=y,fr:=k.fr} e' w'->cA (lf B w Y ow M fx x n made) e' w':=λ{y e e' w'} he hX j=>by
  obtain⟨rfl,u,F⟩:=j;subst K;exact⟨rfl,h.bk o hG N D S C J I G W F _ u {x with md:=.ev e,fr:=f,ch:=r} d U (by rw[<-he];rfl) ⟨rfl,rfl,rfl,rfl⟩ ⟨rfl,rfl,rfl⟩ ⟨rfl,rfl,rfl,rfl⟩ id ⟨rfl,U,hX.ak (h.kr o F) (TV _),hf,C⟩⟩
 obtain⟨cs,x2,P,O,H,h3⟩:∃cs x2,LR w Y k.l cs/\cs[2]? =some x2/\XX w mo d x2 b/\((cs.length=3/\c=.const .nothing)\/∃x3,cs.length=4/\cs[3]? =some x3/\XX w mo d x3 c):=by
  rcases R with⟨x0,x1,x2,h1,h2,h3⟩|⟨x0,x1,x2,x3,h1,h2,h3⟩
  .exact⟨_,x2,h1,rfl,h2,.inl ⟨rfl,h3⟩⟩
  .exact⟨_,x2,h1,rfl,h2,.inr ⟨x3,rfl,rfl,h3⟩⟩
 have A:=h.yM o;have L:=RX.kd S;by_cases h2:m.v.k=2
 .obtain⟨q,rfl⟩:∃q,v=.bool q:=by cases v<;>simp only at L<;>first|exact⟨_,rfl⟩|omega
  have E:m.v=cQ 2 (if q then 1 else 0):=S;cases q with
  |true=>exact(FX w Y M g m k cs x2 o I G p P O A h2 (by rw[E];rfl)).mono λe' w' j=>fin rfl H j
  |false=>
   rcases h3 with⟨h3,rfl⟩|⟨x3,Z,T,Q⟩
   .refine(JW w Y M g m k cs o I G p P h3 h2 (by rw[E];rfl)).mono ?_;rintro e' w' ⟨rfl,u,F⟩;subst K;exact⟨rfl,h.arm o F _ u {x with md:=.back .nothing,fr:=f,ch:=r} 0 (kc _) (.inr ⟨{x with md:=.ev (.const .nothing),fr:=f,ch:=r},by unfold dG;rw[D];simp only;rw[J];rfl,rfl,rfl⟩) ⟨rfl,rfl,h.st.1,h.st.2⟩ rfl ⟨rfl,rfl,rfl⟩ (by rw[lh D];exact N) (iU.ak (h.kr o F) (TV _) (TV _) (h.sW o F) _ _ W) h.la ⟨rfl,rfl,C⟩⟩
   .exact(JX w Y M g m k cs x3 o I G p P T A h2 (by rw[E];rfl) Z).mono λe' w' j=>fin rfl Q j
 .have hs:cj v (.bool false)=false:=by cases v<;>simp only at L<;>first|rfl|omega
  exact(FW w Y M g m k cs x2 o I G p P O A (by simpa using h2)).mono λe' w' j=>fin (by rw[hs];rfl) H j
theorem Lu{w:aa}(h:RC B w Y ow mo mf M fx m x)(H:aI w M m)(S:GX z vs x)(C:m.made=(made:Int)){v:V}(l:x.md=.back v)(hv:RX w mo v m.v)(q:nI fx m x)(o:x.ch=ka::r)(U:m.ch=eb g)(T:di w g k)(hr:iU w Y mo mf k.next r)(y:ka=.bind f s)(X:KX w Y mo mf k (.bind f s)):cl 112 #[Pt M] w (cA (lf B w Y ow M fx x n made)):=by
 obtain⟨A,⟨gf,d,u⟩,D⟩:=X;have p:=h.fdm _ _ d;obtain⟨fr,c⟩:∃fr,x.frs[f]? =some fr:=⟨_,fA p⟩;obtain⟨g',fc,vcs,I,J,q3,q4,K,L,q7⟩:=h.fr f fr c;rw[d] at I;cases I;refine(FV w 0 M g gf m k fc fr.ns vcs s H U T A u D q3 (kc _) (S.len c)).mono ?_;rintro e' w' ⟨rfl,Q,R,E,j,hu,Z,F⟩;obtain⟨N,O,P⟩:=EL fr s v;obtain⟨G,ow',h1,W⟩:=h.nh H f gf Q (Hb fr.ns vcs s m.v) (fr.define s v) mf (TV _) d (hu.mono λb hb=>by
  rcases hb with e|e|e|e
  .exact .inl e
  .exact .inr (e▸J)
  .exact .inr (K b e)
  .exact .inr (L b e)) _ j ⟨rfl,rfl,h.st.1,h.st.2⟩ rfl {x with md:=.back .nothing,ch:=r,frs:=x.frs.set f (fr.define s v)} ⟨rfl,rfl⟩ (ve) (by rw[N];exact R) (λk=>by rw[O];exact fU.bd _ _ (fU.ak k (TV _) _ _ q4) (T5 k (TV _) _ _ hv)) (λb hb=>by
  rcases hb with e|e|e
  .exact .inl (e▸J)
  .exact(Z b e).imp_left (K b)
  .exact(F b e).imp_left (L b)) (by rw[P,E];exact q7) (λG k hy=>iU.ak k (TV _) (TV _) hy _ _ hr) h.la (by simpa using h.fdm)
 subst y;exact⟨rfl,G,ow',W,.inr (.inl ⟨_,0,kc _,wQ l o (by simp only[ix,c]),mo,mf,_,j,h1,⟨rfl,rfl,q⟩,by rw[lh l];exact C⟩)⟩
theorem Ov{w:aa}(h:RC B w Y ow mo mf M fx m x)(j:aI w M m)(J:GX z vs x)(y:m.made=(made:Int)){v:V}(d:x.md=.back v)(X:RX w mo v m.v)(G:nI fx m x)(o:x.ch=ka::r)(L:m.ch=eb g)(K:di w g k)(N:iU w Y mo mf k.next r)(H:ka=.change f s)(T:KX w Y mo mf k (.change f s)):cl 112 #[Pt M] w (cA (lf B w Y ow M fx x n made)):=by
 obtain⟨u,p,A⟩:=T;have F:f<x.frs.length:=by obtain⟨g,h1,_⟩:=p;exact h.fdm _ _ h1
 have C:=λW (l:aB (λk=>k=M) w W)=>Am W mf x.frs f k.fr s F p (h.Rk j J l);subst H;cases hx:eG x.frs (f+1) f s with
 |none=>
  rw[hx] at C;refine(JY w mf M g m k s j L K u A C).mono ?_;rintro e w' ⟨rfl,c,l⟩;exact⟨rfl,h.fail j l _ c 5 r.length (wQ d o (by simp only[ix,hx];rfl)) ⟨rfl,rfl,rfl⟩ (N.deep.upd j l) (by rw[lh d];exact y)⟩
 |some q=>
  obtain⟨D,i⟩:=q;rw[hx] at C;obtain⟨fr,h1,h2⟩:=l5 hx;obtain⟨gf,fc,vcs,O,q2,P,q4,q5,Q,q7⟩:=h.fr D fr h1;have hi:=cy (ic _ _ _ h2);have U:=P.ln;refine(JU w 0 mf M g gf D i m k s fc fr.ns vcs j L K u A O P (by omega) (J.len h1) C).mono ?_;rintro e' w' ⟨rfl,R,c,l⟩;obtain⟨I,ow',E,S⟩:=h.nh j D gf fc (vcs.set i m.v) (fr.put i v) mf (TV _) O (l.mono λb hb=>hb.imp_right (Q b)) _ c ⟨rfl,rfl,h.st.1,h.st.2⟩ rfl {x with md:=.back .nothing,ch:=r,frs:=x.frs.set D (fr.put i v)} ⟨rfl,rfl⟩ (ve) R (λk=>fU.set i _ _ (fU.ak k (TV _) _ _ q4) (T5 k (TV _) _ _ X)) (λb hb=>by
   rcases hb with e|e|e
   .exact .inl (e▸q2)
   .exact .inl (q5 b e)
   .exact .inl (Q b e)) q7 (λI k Z=>iU.ak k (TV _) (TV _) Z _ _ N) h.la (by simpa using h.fdm)
  exact⟨rfl,I,ow',S,.inr (.inl ⟨_,0,kc _,wQ d o (by simp only[ix,hx,h1]),mo,mf,_,c,E,⟨rfl,rfl,G⟩,by rw[lh d];exact y⟩)⟩
theorem Lw{w:aa}(h:RC B w Y ow mo mf M fx m x)(p:aI w M m)(P:GX z vs x)(J:m.made=(made:Int)){v:V}(K:x.md=.back v)(Z:RX w mo v m.v)(y:nI fx m x)(C:x.ch=ka::r)(O:m.ch=eb g)(F:di w g k)(T:iU w Y mo mf k.next r)(R:ka=.rest f es)(hk:KX w Y mo mf k (.rest f es)):cl 112 #[Pt M] w (cA (lf B w Y ow M fx x n made)):=by
 obtain⟨I,E,d,c0,cs,G,X,S,D,hX⟩:=hk;have q:=h.yM p;have H:=kM p F;have L:r.length<200:=by have:=P.ch;rw[C] at this;simp at this;omega
 subst R;cases hX with
 |nil=>exact absurd rfl S
 |cons _ c cs e es h1 h2=>
  cases h2 with
  |nil=>
   refine(uW w Y M g m k c0 [c] (λw'=>aI w' M {m with ch:=k.next,mode:=1,v:=c,fr:=k.fr}/\aB (λk=>k=M) w w') p O F I X q D (by simp) (λW u o A b=> ?_) (λw' hp=>⟨_,hp.2,H⟩)).mono ?_
   .refine(sE W M _ Y u c k.fr A b).mono ?_;rintro e' w' ⟨rfl,l,j⟩;exact⟨rfl,l,o.trans j (λ_ _ h=>h)⟩
   .rintro e' w' ⟨rfl,l,o⟩;exact⟨rfl,h.bk p P J K Z y C O F T o _ l {x with md:=.ev e,fr:=f,ch:=r} d G rfl ⟨rfl,rfl,rfl,rfl⟩ ⟨rfl,rfl,rfl⟩ ⟨rfl,rfl,rfl,rfl⟩ id ⟨rfl,G,h1.ak (h.kr p o) (TV _),E,y⟩⟩
  |cons _ c2 cs e2 es h2 h3=>
   refine(uW w Y M g m k c0 (c::c2::cs) (λw'=>∃W u,aB (λk=>k=M) w W/\LR W Y u (c::c2::cs)/\ft W M {m with ch:=k.next,fr:=k.fr} ⟨4,⟨#[]⟩,u,ef,none,none,0⟩ c r.length w') p O F I X q D (by simp) (λW u o A b=> ?_) (λw' hp=> ?_)).mono ?_
   .refine(oP W M _ Y u c c2 cs k.fr r.length A b q (T.deep.upd p o)).mono ?_;rintro e' w' ⟨rfl,hp⟩;exact⟨rfl,W,u,o,b,hp⟩
   .obtain⟨W,u,o,_,hp⟩:=hp;obtain⟨_,_,_,_,j⟩:=hp.ok L;exact⟨_,o.trans j (λ_ _ h=>h),H⟩
   .rintro e' w' ⟨rfl,W,u,o,b,hp⟩;obtain⟨g2,_,Q,l,j⟩:=hp.ok L;have N:=o.trans j (λ_ _ h=>h);have k3:=h.kr p N;exact⟨rfl,h.bk p P J K Z y C O F T N _ l {x with md:=.ev e,fr:=f,ch:=.rest f (e2::es)::r} d G rfl ⟨rfl,rfl,rfl,rfl⟩ ⟨rfl,rfl,rfl⟩ ⟨rfl,rfl,rfl,rfl⟩ (λU=>⟨g2,_,rfl,Q,by simp,⟨rfl,E,d,c,c2::cs,G,b.mi q j,by simp,by simp at D ⊢;omega,.cons _ _ _ _ _ (h2.ak k3 (TV _)) (h3.ak k3 (TV _))⟩,U⟩) ⟨rfl,G,h1.ak k3 (TV _),E,y⟩⟩
theorem Lt{w:aa}(h:RC B w Y ow mo mf M fx m x)(C:aI w M m)(hG:GX z vs x)(X:m.made=(made:Int)){v:V}(Z:x.md=.back v)(hv:RX w mo v m.v)(D:nI fx m x)(K:x.ch=ka::r)(hc:m.ch=eb g)(hK:di w g k)(hr:iU w Y mo mf k.next r)(h7:ka=.args f es got)(hk:KX w Y mo mf k (.args f es got)):cl 112 #[Pt M] w (cA (lf B w Y ow M fx x n made)):=by
 obtain⟨U,T,d,cs,q,hd,hL,Q,hU,hR,hlt,hX,h0⟩:=hk;have y:=h.yM C;have P:=h.yb C;have h9:r.length<200:=by have:=hG.ch;rw[K] at this;simp at this;omega
 subst h7;have O:=hX.length;cases es with
 |nil=>
  have h6:cs.length=q.length+1:=by simp at O;omega
  refine(uV w M g m k (λw'=>∃W,aB (λk=>k=M) w W/\PD W M {m with ch:=k.next} (q++[m.v]) w') C hc hK U λW b I F=> ?_).mono ?_
  .refine(FE W M g _ k Y q I F (hU.mi y b) h0 (by rw[hL.1];exact h6) (by omega)).mono ?_;rintro e' w' ⟨rfl,hp⟩;exact⟨rfl,W,b,hp⟩
  .rintro e' w' ⟨rfl,W,b,u,A,H,N⟩;have o:=b.trans N (λ_ _ h=>h);have k3:=h.kr C o;obtain⟨⟨ua,un,uc⟩,e1,G⟩:=A.lr (Y:=Y) (λj hj _=>P j (ku b.size hj));obtain⟨va,vn,vc⟩:=u;cases e1;have J:fU w' mo (got.reverse++[v]) (q++[m.v]):=(fU.ak k3 (TV _) _ _ hR).append ⟨T5 k3 (TV _) _ _ hv,trivial⟩;obtain⟨p,a,h3⟩:∃p a,got.reverse++[v]=p::a:=by
    cases hq:got.reverse++[v] with
    |nil=>simp at hq
    |cons p a=>exact⟨p,a,rfl⟩
   rw[h3] at J;have h5:a.length<=1001:=by have:=J.length;simp at this;omega
   exact⟨rfl,h.bk C hG X Z hv D K hc hK hr o _ H {x with md:=.app p a,ch:=r} 0 (kc _) (by simp only[ix,RF,h3]) ⟨rfl,rfl,rfl,rfl⟩ ⟨rfl,rfl,rfl⟩ ⟨rfl,rfl,rfl,rfl⟩ id ⟨rfl,h5,D,_,G,J⟩⟩
 |cons e es=>
  obtain⟨c,E,L⟩:∃c E,cs.drop (q.length+1)=c::E:=by
   cases hq:cs.drop (q.length+1) with
   |nil=>rw[hq] at O;simp at O
   |cons c l=>exact⟨c,l,rfl⟩
  have R:cs[q.length+1]? =some c:=by
   have:(cs.drop (q.length+1))[0]? =some c:=by rw[L];rfl
   simpa using this
  rw[L] at hX;have S:cs.drop (q.length+1+1)=E:=by rw[<-SV,L];rfl
  cases hX with
  |cons _ _ _ _ _ h1 h2=>
   refine(uV w M g m k (λw'=>∃W,aB (λk=>k=M) w W/\PE W M {m with ch:=k.next} k (q++[m.v]) c r.length w') C hc hK U λW b I F=> ?_).mono ?_
   .refine(FF W M g _ k Y q cs c r.length I F (hU.mi y b) h0 (hL.mi y b) R Q y (hr.deep.upd C b)).mono ?_;rintro e' w' ⟨rfl,hp⟩;exact⟨rfl,W,b,hp⟩
   .rintro e' w' ⟨rfl,W,b,u,A,hp⟩;obtain⟨g2,_,h4,H,N⟩:=hp.ok h9;have o:=b.trans N (λ_ _ h=>h);have k3:=h.kr C o;obtain⟨⟨ua,un,uc⟩,e1,G⟩:=A.lr (Y:=Y) (λj hj _=>P j (ku b.size hj));obtain⟨va,vn,vc⟩:=u;cases e1;have ha:=cy R;exact⟨rfl,h.bk C hG X Z hv D K hc hK hr o _ H {x with md:=.ev e,fr:=f,ch:=.args f es (v::got)::r} d hd rfl ⟨rfl,rfl,rfl,rfl⟩ ⟨rfl,rfl,rfl⟩ ⟨rfl,rfl,rfl,rfl⟩ (λh8=>⟨g2,_,rfl,h4,by simp,⟨rfl,T,d,cs,q++[m.v],hd,hL.mi y o,Q,G,by rw[RF];exact(fU.ak k3 (TV _) _ _ hR).append ⟨T5 k3 (TV _) _ _ hv,trivial⟩,by simp;omega,by rw[ga,Ix,S];exact h2.ak k3 (TV _),λe=>by simp at e⟩,h8⟩) ⟨rfl,hd,h1.ak k3 (TV _),T,D⟩⟩
theorem Ls{w:aa}(h:RC B w Y ow mo mf M fx m x)(p:aI w M m)(y:GX z vs x)(o:m.made=(made:Int)){v:V}(d:x.md=.back v)(q:RX w mo v m.v)(l:nI fx m x):cl 112 #[Pt M] w (cA (lf B w Y ow M fx x n made)):=by
 have u:=h.ch;cases hch:x.ch with
 |nil=>
  rw[hch] at u;obtain⟨j,K,I,H⟩:=id l;obtain⟨_,cs,_,_,J,G⟩:=h.fo;have:=G.length;refine(JV w mo M m v p u q (by omega)).mono ?_;rintro e' w' ⟨rfl,F,L⟩;exact⟨rfl,h.arm p L _ F {x with md:=.next,last:=some v} 0 (kc _) (.inl (by unfold dG;rw[d];simp only;rw[hch])) ⟨rfl,rfl,h.st.1,h.st.2⟩ rfl ⟨rfl,rfl,rfl⟩ (by rw[lh d];exact o) (by simp only[hch];exact u) rfl ⟨rfl,hch,j+1,by simp only[K];omega,I,H⟩⟩
 |cons ka r=>
  rw[hch] at u;obtain⟨g,k,C,A,_,D,E⟩:=u;cases ka with
  |test f b c=>exact Lx h p y o d q l hch C A E rfl D
  |bind f s=>exact Lu h p y o d q l hch C A E rfl D
  |change f s=>exact Ov h p y o d q l hch C A E rfl D
  |rest f es=>exact Lw h p y o d q l hch C A E rfl D
  |args f es got=>exact Lt h p y o d q l hch C A E rfl D
end Go.Proofs.YtlobegpjenabaaaGreatDoor
