import Derived.Test.YtlobegpjenabaaaGreatDoorT24
namespace Go.Proofs.YtlobegpjenabaaaGreatDoor
open Go.RowKit Tryz
set_option linter.unusedSimpArgs false
set_option linter.unusedVariables false
set_option maxRecDepth 100000
set_option maxHeartbeats 4000000
variable {a:Obj} {w1:aa} {B k:Nat} {x:Vc} {s:au}
def qC(w:aa)(c:Vc)(er:Int)(e:bo)(w':aa):Prop:=e=.returned (.tuple #[.agg c.c,Jn er])/\Below w.heap.size w w'
def PC(w:aa)(a b:Vc)(e:bo)(w':aa):Prop:=∃g,e=.returned (.tuple #[.agg (eg g).c,Jn 0])/\w.heap.size<=g/\gY w' g a b/\Below w.heap.size w w'
theorem jp{w:aa}{c:Vc}{b:Obj}:∃_:Unit,Cl (((w.alloc (.cells c.c 96)).alloc a).alloc b) w.heap.size 0 (Jn c.k)/\Cl (((w.alloc (.cells c.c 96)).alloc a).alloc b) w.heap.size 1 (Jn c.n)/\Cl (((w.alloc (.cells c.c 96)).alloc a).alloc b) w.heap.size 2 (.string c.s)/\Cl (((w.alloc (.cells c.c 96)).alloc a).alloc b) w.heap.size 3 (.pointer c.p)/\Cl (((w.alloc (.cells c.c 96)).alloc a).alloc b) w.heap.size 4 (.pointer c.f):=by
 have h:(((w.alloc (.cells c.c 96)).alloc a).alloc b).heap[w.heap.size]? =some (.cells c.c 96):=aw (aw (fK _ _));exact⟨(),ae h 0,ae h 1,ae h 2,ae h 3,ae h 4⟩
theorem cN(w:aa)(r a b:Obj):Below w.heap.size w (((w.alloc r).alloc a).alloc b):=(((fL _ w).alloc (ew _) _).alloc (by simp) _).alloc (by simp;omega) _
theorem xk(w:aa)(Y:a9)(M:Nat)(u:Sl)(a b:Vc)(g:LR w Y u [a,b])(I:a.k=1)(hb:b.k=1)(z:ao)(n:Int)(h:(z=⟨#[43]⟩/\n=a.n+b.n)\/(z=⟨#[45]⟩/\n=a.n-b.n)\/z=⟨#[42]⟩/\n=a.n *b.n):cl 190 #[Pt M,.string z,.slice u.a u.n u.c] w (qC w (cQ 1 (wrap64 n)) 0):=by
 obtain⟨gl,O,j,J,_,l,A,C,D,E⟩:=g.at (i:=0) (v:=a) rfl;obtain⟨H,L,d,_,_,m,b1,b2,F,G⟩:=g.at (i:=1) (v:=b) rfl;rw[j] at d;cases d;rw[v7,rn] at l A C D E;rw[PS] at m b1 b2 F G;have K:u.n=2:=g.1;have N:2<=u.c:=by have:=g.2.1;omega
 rw[j,K];rw[I] at l;rw[hb] at m;clear g;rcases h with⟨rfl,e⟩|⟨rfl,e⟩|⟨rfl,e⟩
 all_goals
  go_enter func190,ntmps190;go_wp2;obtain⟨_,o,q,r,t,y⟩:=jp (w:=w) (c:=cQ 1 (wrap64 n)) (a:=.cells #[Jn 1,Jn a.n,.string a.s,.pointer a.p,.pointer a.f] 96) (b:=.cells #[Jn 1,Jn b.n,.string b.s,.pointer b.p,.pointer b.f] 96);refine ff (v:=.tuple #[.agg (cQ 1 (wrap64 n):Vc).c,Jn 0]) (by rw[e] at o q r t y ⊢;simp[results,results190,go_sem,Vc.c,cQ,o,q,r,t,y]) rfl ?_;exact⟨rfl,cN _ _ _ _⟩
theorem D7(w:aa)(Y:a9)(M:Nat)(u:Sl)(a b:Vc)(e:LR w Y u [a,b])(z:ao)(E:z=⟨#[43]⟩\/z=⟨#[45]⟩\/z=⟨#[42]⟩\/z=⟨#[60]⟩\/z=⟨#[61]⟩)(h:(a.k==1)=false\/(a.k==1)=true/\(b.k==1)=false):cl 190 #[Pt M,.string z,.slice u.a u.n u.c] w (qC w (cQ 0 0) 8):=by
 obtain⟨gl,N,g,C,_,j,l,m,o,q⟩:=e.at (i:=0) (v:=a) rfl;obtain⟨A,F,d,_,_,r,b1,b2,t,y⟩:=e.at (i:=1) (v:=b) rfl;rw[g] at d;cases d;rw[v7,rn] at j l m o q;rw[PS] at r b1 b2 t y;have D:u.n=2:=e.1;have L:2<=u.c:=by have:=e.2.1;omega
 rw[g,D];clear e;rcases h with h|⟨h,hb⟩
 all_goals
  rcases E with rfl|rfl|rfl|rfl|rfl
 all_goals
  go_enter func190,ntmps190;go_wp2;obtain⟨_,G,H,I,J,K⟩:=jp (w:=w) (c:=(cQ 0 0)) (a:=.cells #[Jn a.k,Jn a.n,.string a.s,.pointer a.p,.pointer a.f] 96) (b:=.cells #[Jn b.k,Jn b.n,.string b.s,.pointer b.p,.pointer b.f] 96);refine ff (v:=.tuple #[.agg ((cQ 0 0):Vc).c,Jn 8]) (by simp[results,results190,go_sem,Vc.c,cQ,G,H,I,J,K]) rfl ?_;exact⟨rfl,cN _ _ _ _⟩
theorem xV{w:aa}{b:Obj}(hb:Below (((w.alloc (.cells (cQ 0 0).c 96)).alloc a).alloc b).heap.size (((w.alloc (.cells (cQ 0 0).c 96)).alloc a).alloc b) w1):w1.heap[w.heap.size]? =some (.cells (cQ 0 0).c 96):=by
 rw[hb.block w.heap.size (by simp;omega)];exact aw (aw (fK _ _))
theorem jZ{w:aa}{c:Vc}(h:w.heap[B]? =some (.cells x.c 96)):∃_:Unit,Cl (dW w B (Jn c.k) (Jn c.n) (.string c.s) (.pointer c.p) (.pointer c.f)) B 0 (Jn c.k)/\Cl (dW w B (Jn c.k) (Jn c.n) (.string c.s) (.pointer c.p) (.pointer c.f)) B 1 (Jn c.n)/\Cl (dW w B (Jn c.k) (Jn c.n) (.string c.s) (.pointer c.p) (.pointer c.f)) B 2 (.string c.s)/\Cl (dW w B (Jn c.k) (Jn c.n) (.string c.s) (.pointer c.p) (.pointer c.f)) B 3 (.pointer c.p)/\Cl (dW w B (Jn c.k) (Jn c.n) (.string c.s) (.pointer c.p) (.pointer c.f)) B 4 (.pointer c.f):=by
 have hS:=bA (Jn c.k) (Jn c.n) (.string c.s) (.pointer c.p) (.pointer c.f) h;exact⟨(),ae hS 0,ae hS 1,ae hS 2,ae hS 3,ae hS 4⟩
theorem An(w:aa)(Y:a9)(M:Nat)(u:Sl)(a b:Vc)(l:LR w Y u [a,b])(Q:a.k=1)(hb:b.k=1)(z:ao)(r:Bool)(h:(z=⟨#[60]⟩/\decide (a.n<b.n)=r)\/z=⟨#[61]⟩/\(a.n==b.n)=r):cl 190 #[Pt M,.string z,.slice u.a u.n u.c] w (qC w (vP r) 0):=by
 obtain⟨gl,X,m,R,_,y,I,J,K,L⟩:=l.at (i:=0) (v:=a) rfl;obtain⟨P,T,d,_,_,A,b1,b2,N,O⟩:=l.at (i:=1) (v:=b) rfl;rw[m] at d;cases d;rw[v7,rn] at y I J K L;rw[PS] at A b1 b2 N O;have S:u.n=2:=l.1;have U:2<=u.c:=by have:=l.2.1;omega
 rw[m,S];rw[Q] at y;rw[hb] at A;clear l;have o:=ag (λW=>xu W r);obtain⟨bb,j⟩:∃q,q=vP r:=⟨_,rfl⟩;rcases h with⟨rfl,rfl⟩|⟨rfl,rfl⟩
 all_goals
  rw[<-j];unfold Vc.c at o;rw[<-j] at o;clear j;go_enter func190,ntmps190;go_wp2_with fail;refine(o.out _).mono ?_;rintro e w1 ⟨rfl,g⟩;have hR:=xV (w:=w) (w1:=w1) g;have r0:=kd hR 0 (Jn 0);have r1:=kd hR 1 (Jn 0);have r2:=kd hR 2 (.string ⟨#[]⟩);have r3:=kd hR 3 (.pointer none);have Z:=kd hR 4 (.pointer none);have rf:=ah hR;have H:=ag hR;have t:=ag ((cN w _ _ _).trans (g.mono (cN w _ _ _).size));clear hR g o;obtain⟨_,C,D,E,F,G⟩:=jZ (c:=bb) H.out;unfold dW at C D E F G;go_wp2;refine ff (v:=.tuple #[.agg bb.c,Jn 0]) (by simp[results,results190,go_sem,Vc.c,C,D,E,F,G]) rfl ?_;exact⟨rfl,t.out.trans ((cU w1 w.heap.size (Jn bb.k) (Jn bb.n) (.string bb.s) (.pointer bb.p) (.pointer bb.f)).below t.out.size (λk V=>by omega))⟩
theorem dJ(w:aa)(Y:a9)(M:Nat)(u:Sl)(a:Vc)(l:LR w Y u [a])(z:ao)(r:Bool)(h:(z=⟨#[110,117,108,108,63]⟩/\(a.k==4)=r)\/(z=⟨#[112,97,105,114,63]⟩/\(a.k==5)=r)\/(z=⟨#[110,111,116]⟩/\(a.k==2)=true/\(a.n==0)=r)\/z=⟨#[110,111,116]⟩/\(a.k==2)=false/\false=r):cl 190 #[Pt M,.string z,.slice u.a u.n u.c] w (qC w (vP r) 0):=by
 obtain⟨gl,P,m,K,_,F,G,H,I,J⟩:=l.at (i:=0) (v:=a) rfl;rw[v7,rn] at F G H I J;have L:u.n=1:=l.1;have N:1<=u.c:=by have:=l.2.1;omega
 rw[m,L];have j:=ag (λW=>xu W r);obtain⟨bb,d⟩:∃q,q=vP r:=⟨_,rfl⟩;clear l;rcases h with⟨rfl,g⟩|⟨rfl,g⟩|⟨rfl,h2,g⟩|⟨rfl,h2,g⟩
 all_goals
  cases h1:(a.k==1)<;>cases r
 all_goals first|(simp at h1 g;omega)|(simp at h1 h2;omega)|(cases g;done)|skip
 all_goals
  rw[<-d];unfold Vc.c at j;rw[<-d] at j;clear d;go_enter func190,ntmps190;go_wp2_with fail;refine(j.out _).mono ?_;rintro e w1 ⟨rfl,b⟩;have hR:=xV (w:=w) (w1:=w1) b;have r0:=kd hR 0 (Jn 0);have r1:=kd hR 1 (Jn 0);have r2:=kd hR 2 (.string ⟨#[]⟩);have r3:=kd hR 3 (.pointer none);have Q:=kd hR 4 (.pointer none);have R:=ah hR;have E:=ag hR;have o:=ag ((cN w _ _ _).trans (b.mono (cN w _ _ _).size));clear hR b j;obtain⟨_,t,y,A,C,D⟩:=jZ (c:=bb) E.out;unfold dW at t y A C D;go_wp2;refine ff (v:=.tuple #[.agg bb.c,Jn 0]) (by simp[results,results190,go_sem,Vc.c,t,y,A,C,D]) rfl ?_;exact⟨rfl,o.out.trans ((cU w1 w.heap.size (Jn bb.k) (Jn bb.n) (.string bb.s) (.pointer bb.p) (.pointer bb.f)).below o.out.size (λk O=>by omega))⟩
theorem FL(w:aa)(Y:a9)(M:Nat)(u:Sl)(a b:Vc)(e:LR w Y u [a,b]):cl 190 #[Pt M,.string ⟨#[99,111,110,115]⟩,.slice u.a u.n u.c] w (PC w a b):=by
 obtain⟨gl,K,g,G,_,q,r,t,y,z⟩:=e.at (i:=0) (v:=a) rfl;obtain⟨E,I,d,_,_,A,b1,b2,C,D⟩:=e.at (i:=1) (v:=b) rfl;rw[g] at d;cases d;rw[v7,rn] at q r t y z;rw[PS] at A b1 b2 C D;have H:u.n=2:=e.1;have J:2<=u.c:=by have:=e.2.1;omega
 rw[g,H];clear e;cases h1:(a.k==1)<;>cases h2:(b.k==1)
 all_goals
  go_enter func190,ntmps190;go_wp2;have hR:((((w.alloc (.cells (eg (w.heap.size+3)).c 96)).alloc (.cells #[Jn a.k,Jn a.n,.string a.s,.pointer a.p,.pointer a.f] 96)).alloc (.cells #[Jn b.k,Jn b.n,.string b.s,.pointer b.p,.pointer b.f] 96)).alloc (.cells #[Jn a.k,Jn a.n,.string a.s,.pointer a.p,.pointer a.f,Jn b.k,Jn b.n,.string b.s,.pointer b.p,.pointer b.f] 162)).heap[w.heap.size]? =some (.cells (eg (w.heap.size+3)).c 96):=aw (aw (aw (fK _ _)));have F:((((w.alloc (.cells (eg (w.heap.size+3)).c 96)).alloc (.cells #[Jn a.k,Jn a.n,.string a.s,.pointer a.p,.pointer a.f] 96)).alloc (.cells #[Jn b.k,Jn b.n,.string b.s,.pointer b.p,.pointer b.f] 96)).alloc (.cells #[Jn a.k,Jn a.n,.string a.s,.pointer a.p,.pointer a.f,Jn b.k,Jn b.n,.string b.s,.pointer b.p,.pointer b.f] 162)).heap[w.heap.size+3]? =some (.cells #[Jn a.k,Jn a.n,.string a.s,.pointer a.p,.pointer a.f,Jn b.k,Jn b.n,.string b.s,.pointer b.p,.pointer b.f] 162):=by
   rw[aQ,fN (by simp)]
  have h:=ae hR 0;have j:=ae hR 1;have l:=ae hR 2;have m:=ae hR 3;have o:=ae hR 4;simp only[eg,Vc.c,fD,fy,km] at h j l m o;refine ff (v:=.tuple #[.agg (eg (w.heap.size+3)).c,Jn 0]) (by simp[results,results190,go_sem,Vc.c,eg,h,j,l,m,o]) rfl ?_;refine⟨w.heap.size+3,rfl,by omega,?_,(cN w _ _ _).alloc (by simp;omega) _⟩;unfold gY;rw[show a.c++b.c= #[Jn a.k,Jn a.n,.string a.s,.pointer a.p,.pointer a.f,Jn b.k,Jn b.n,.string b.s,.pointer b.p,.pointer b.f] from rfl];exact F
theorem uU(w:aa)(Y:a9)(M:Nat)(u:Sl)(a:Vc)(e:LR w Y u [a])(g:Nat)(x y:Vc)(t:a=eg g)(d:gY w g x y)(z:ao)(v:Vc)(h:(z=⟨#[99,97,114]⟩/\v=x)\/z=⟨#[99,100,114]⟩/\v=y):cl 190 #[Pt M,.string z,.slice u.a u.n u.c] w (qC w v 0):=by
 obtain⟨gl,N,j,E,_,l,m,o,q,r⟩:=e.at (i:=0) (v:=a) rfl;rw[v7,rn] at l m o q r;have F:u.n=1:=e.1;have L:1<=u.c:=by have:=e.2.1;omega
 rw[j,F];subst t;have O:=kd d 0 (Jn x.k);have x1:=kd d 1 (Jn x.n);have x2:=kd d 2 (.string x.s);have x3:=kd d 3 (.pointer x.p);have P:=kd d 4 (.pointer x.f);have Q:=kd d 5 (Jn y.k);have R:=kd d 6 (Jn y.n);have S:=kd d 7 (.string y.s);have T:=kd d 8 (.pointer y.p);have U:=kd d 9 (.pointer y.f);have A:g<w.heap.size:=ai d;have C:g<w.heap.size+1:=by omega
 have D:g<w.heap.size+1+1:=by omega
 simp only[eg] at l m o q r;clear e d;rcases h with⟨rfl,rfl⟩|⟨rfl,rfl⟩
 all_goals
  go_enter func190,ntmps190;go_wp2;obtain⟨_,G,H,I,J,K⟩:=jp (w:=w) (c:=v) (a:=.cells #[Jn 5,Jn 0,.string ⟨#[]⟩,Pt g,.pointer none] 96) (b:=.cells #[Jn 5,Jn 0,.string ⟨#[]⟩,Pt g,.pointer none] 96);refine ff (v:=.tuple #[.agg v.c,Jn 0]) (by simp[results,results190,go_sem,Vc.c,cQ,G,H,I,J,K]) rfl ?_;exact⟨rfl,cN _ _ _ _⟩
theorem ly(w:aa)(Y:a9)(M:Nat)(u:Sl)(a:Vc)(d:LR w Y u [a])(hb:(a.k==5)=false)(z:ao)(r:z=⟨#[99,97,114]⟩\/z=⟨#[99,100,114]⟩):cl 190 #[Pt M,.string z,.slice u.a u.n u.c] w (qC w (cQ 0 0) 8):=by
 obtain⟨gl,F,e,o,_,g,h,j,l,m⟩:=d.at (i:=0) (v:=a) rfl;rw[v7,rn] at g h j l m;have q:u.n=1:=d.1;have E:1<=u.c:=by have:=d.2.1;omega
 rw[e,q];clear d;rcases r with rfl|rfl
 all_goals cases h1:(a.k==1)
 all_goals
  go_enter func190,ntmps190;go_wp2;obtain⟨_,t,y,A,C,D⟩:=jp (w:=w) (c:=(cQ 0 0)) (a:=.cells #[Jn a.k,Jn a.n,.string a.s,.pointer a.p,.pointer a.f] 96) (b:=.cells #[Jn a.k,Jn a.n,.string a.s,.pointer a.p,.pointer a.f] 96);refine ff (v:=.tuple #[.agg ((cQ 0 0):Vc).c,Jn 8]) (by simp[results,results190,go_sem,Vc.c,cQ,t,y,A,C,D]) rfl ?_;exact⟨rfl,cN _ _ _ _⟩
theorem JO(w:aa)(Y:a9)(M:Nat)(u:Sl)(a b:Vc)(o:LR w Y u [a,b])(z:jD w a.p)(A:jD w b.p)(r:jD w a.f)(t:jD w b.f):cl 190 #[Pt M,.string ⟨#[101,113,63]⟩,.slice u.a u.n u.c] w (qC w (vP (ci a b)) 0):=by
 obtain⟨gl,ol,y,X,_,N,O,P,Q,R⟩:=o.at (i:=0) (v:=a) rfl;obtain⟨V,h0,g,_,_,S,b1,b2,T,U⟩:=o.at (i:=1) (v:=b) rfl;rw[y] at g;cases g;rw[v7,rn] at N O P Q R;rw[PS] at S b1 b2 T U;have Z:u.n=2:=o.1;have hc:2<=u.c:=by have:=o.2.1;omega
 rw[y,Z];have h:Hid (∀W,Below w.heap.size w W->cl 219 #[.agg a.c,.agg b.c] W (λe w'=>e=.returned (.bool (ci a b))/\Below W.heap.size W w')):=λW D=>JS W a b (z.below D) (A.below D) (r.below D) (t.below D);unfold Vc.c at h;obtain⟨K,m⟩:∃q,q=ci a b:=⟨_,rfl⟩;rw[<-m] at h;rw[<-m];clear z A r t m;have C:=ag (λW=>xu W K);obtain⟨bb,l⟩:∃q,q=vP K:=⟨_,rfl⟩;rw[<-l];unfold Vc.c at C;rw[<-l] at C;clear o l;cases h1:(a.k==1)<;>cases h2:(b.k==1)
 all_goals
  go_enter func190,ntmps190;go_wp2_with fail;refine(h.out _ (cN w _ _ _)).mono ?_;rintro e w0 ⟨rfl,d⟩;go_wp2_with fail;refine(C.out _).mono ?_;rintro e w1 ⟨rfl,j⟩;have hR:=xV (w:=w) (w1:=w1) (d.trans (j.mono d.size));have r0:=kd hR 0 (Jn 0);have r1:=kd hR 1 (Jn 0);have r2:=kd hR 2 (.string ⟨#[]⟩);have r3:=kd hR 3 (.pointer none);have r4:=kd hR 4 (.pointer none);have rf:=ah hR;have L:=ag hR;have E:=ag ((cN w _ _ _).trans ((d.trans (j.mono d.size)).mono (cN w _ _ _).size));clear hR j C;obtain⟨_,F,G,H,I,J⟩:=jZ (c:=bb) L.out;unfold dW at F G H I J;go_wp2;refine ff (v:=.tuple #[.agg bb.c,Jn 0]) (by simp[results,results190,go_sem,Vc.c,F,G,H,I,J]) rfl ?_;exact⟨rfl,E.out.trans ((cU w1 w.heap.size (Jn bb.k) (Jn bb.n) (.string bb.s) (.pointer bb.p) (.pointer bb.f)).below E.out.size (λk hk=>by omega))⟩
def PF(w:aa)(B M:Nat)(m:Rm)(o:List au)(t:au)(e:bo)(w':aa):Prop:=
 ∃u:Sl,e=.returned (.tuple #[.agg (cQ 9 0).c,Jn 0])/\aI w' M {m with out:=u}/\w'.ownsRow B 9 1 (.slice u.a u.n u.c) (o.length+1) ((o++[t]).map bO)/\((Value.slice u.a u.n u.c).ownBlock=(Value.slice m.out.a m.out.n m.out.c).ownBlock\/∀k,(Value.slice u.a u.n u.c).ownBlock=some k->w.heap.size<=k)/\aB (λk=>k=M\/(Value.slice m.out.a m.out.n m.out.c).ownBlock=some k) w w'
theorem FN(w:aa)(Y:a9)(M:Nat)(u:Sl)(a:Vc)(d:LR w Y u [a])(m:Rm)(g:aI w M m)(e:m.out.n=40):cl 190 #[Pt M,.string ⟨#[100,105,115,112,108,97,121]⟩,.slice u.a u.n u.c] w (qC w (cQ 0 0) 10):=by
 obtain⟨gl,J,h,A,_,j,l,o,q,r⟩:=d.at (i:=0) (v:=a) rfl;rw[v7,rn] at j l o q r;have C:u.n=1:=d.1;have I:1<=u.c:=by have:=d.2.1;omega
 rw[h,C];have z:=g.lt;have k15:w.cell? (dq M 15)=some (.slice m.out.a 40 m.out.c):=by rw[<-e];exact g.cell 15
 have t:M<w.heap.size+1:=by omega
 have y:M<w.heap.size+1+1:=by omega
 clear d g;cases h1:(a.k==1)
 all_goals
  go_enter func190,ntmps190;go_wp2;obtain⟨_,D,E,F,G,H⟩:=jp (w:=w) (c:=(cQ 0 0)) (a:=.cells #[Jn a.k,Jn a.n,.string a.s,.pointer a.p,.pointer a.f] 96) (b:=.cells #[Jn a.k,Jn a.n,.string a.s,.pointer a.p,.pointer a.f] 96);refine ff (v:=.tuple #[.agg ((cQ 0 0):Vc).c,Jn 10]) (by simp[results,results190,go_sem,Vc.c,cQ,D,E,F,G,H]) rfl ?_;exact⟨rfl,cN _ _ _ _⟩
theorem FM(w:aa)(Y:a9)(M:Nat)(u:Sl)(a:Vc)(hL:LR w Y u [a])(B:Nat)(m:Rm)(o:List au)(mo:Nat->Option Nat)(v:V)(hv:RX w mo v a)(hM:aI w M m)(hO:w.ownsRow B 9 1 (.slice m.out.a m.out.n m.out.c) o.length (o.map bO))(hy:o.length<40)(hB:B<=w.heap.size):cl 190 #[Pt M,.string ⟨#[100,105,115,112,108,97,121]⟩,.slice u.a u.n u.c] w (PF w B M m o ((bK v).take 100)):=by
 obtain⟨gl,ol,hl,ht,_,a0,a1,a2,a3,a4⟩:=hL.at (i:=0) (v:=a) rfl;rw[v7,rn] at a0 a1 a2 a3 a4;have hn:u.n=1:=hL.1;have H:1<=u.c:=by have:=hL.2.1;omega
 rw[hl,hn];have hh:=hM.lt;have y:m.out.n=o.length:=dg hO;obtain⟨W,T⟩:∃W,W=((w.alloc (.cells (cQ 0 0).c 96)).alloc (.cells #[Jn a.k,Jn a.n,.string a.s,.pointer a.p,.pointer a.f] 96)).alloc (.cells #[Jn a.k,Jn a.n,.string a.s,.pointer a.p,.pointer a.f] 96):=⟨_,rfl⟩;have t:Below w.heap.size w W:=by rw[T];exact cN w _ _ _
 have C:aI W M m:=(t.block M hh).trans hM;have J:W.heap[w.heap.size]? =some (.cells (cQ 0 0).c 96):=by rw[T];exact aw (aw (fK _ _))
 have g:W.heap[w.heap.size+1]? =some (.cells #[Jn a.k,Jn a.n,.string a.s,.pointer a.p,.pointer a.f] 96):=by
  rw[T];have:=fK (w.alloc (.cells (cQ 0 0).c 96)) (.cells #[Jn a.k,Jn a.n,.string a.s,.pointer a.p,.pointer a.f] 96);rw[show(w.alloc (.cells (cQ 0 0).c 96)).heap.size=w.heap.size+1 by simp] at this;exact aw this
 have h3:W.ownsRow B 9 1 (.slice m.out.a o.length m.out.c) o.length (o.map bO):=by
  have:=aq hO (TW (λ_=>False) t) (λ_ _ h=>h);rw[y] at this;exact this
 have k15:W.cell? (dq M 15)=some (.slice m.out.a o.length m.out.c):=by rw[<-y];exact C.cell 15
 have e0:=kd g 0 (Jn a.k);have e1:=kd g 1 (Jn a.n);have e2:=kd g 2 (.string a.s);have e3:=kd g 3 (.pointer a.p);have e4:=kd g 4 (.pointer a.f);have HT:Hid (cl 186 #[.agg a.c] W.drew λe w'=>e=.returned (.string ⟨((bK v).take 100).toArray⟩)/\Below W.heap.size W w'):=(Aq W.drew mo v a (T5 (T6 t.drew) (TV _) v a hv)).mono λe w' h=>⟨h.1,((fL W.heap.size W).drew).trans h.2⟩;unfold Vc.c at HT;obtain⟨tl,O⟩:∃z:ao,z=⟨((bK v).take 100).toArray⟩:=⟨_,rfl⟩;rw[<-O] at HT;have he:=ag O;obtain⟨i0,hi,h8,R,h9⟩:=sv rL;have HI:=ag (ei hi (ei h8 (ei R h9)));have HW:=ag T;have d:=ag (ei t (ei C (ei J (ei g h3))));have h0:=ag y;have N:w.heap.size+3=W.heap.size:=by rw[T];simp
 have hf:=ag N;have kw15:w.cell? (dq M 15)=some (.slice m.out.a o.length m.out.c):=by rw[<-y];exact hM.cell 15
 have hp:M<w.heap.size+1:=by omega
 have hr:M<w.heap.size+1+1:=by omega
 have ho:B<=W.heap.size:=by omega
 have hm:¬((40:Int)<=(o.length:Int)):=by omega
 have hs:=ai J;have r:=ai g;have F:=C.lt;clear hL hM hv hO hi h8 R h9 t C J g h3 T O y N;cases h1:(a.k==1)
 all_goals
  go_enter func190,ntmps190;go_wp2;have L:=HW.out;simp only[cQ,Vc.c] at L;rw[<-L];clear L HW a0 a1 a2 a3 a4 kw15;go_region_law (first|(refine nt rfl ?_;go_simp;go_at_call 186;refine HT.out.mono ?_;rintro e w1 ⟨rfl,hb⟩;have m15:Cl w1 M 15 (.slice m.out.a o.length m.out.c):=(hb.cell (p:=(dq M 15)) F).trans k15;have g0:=(hb.cell (p:=(dq (w.heap.size+1) 0)) r).trans e0;have g1:=(hb.cell (p:=(dq (w.heap.size+1) 1)) r).trans e1;have g2:=(hb.cell (p:=(dq (w.heap.size+1) 2)) r).trans e2;have g3:=(hb.cell (p:=(dq (w.heap.size+1) 3)) r).trans e3;have g4:=(hb.cell (p:=(dq (w.heap.size+1) 4)) r).trans e4;have hw:M<w1.heap.size:=gr F hb.size;have hx:w.heap.size+1<w1.heap.size:=gr r hb.size;have R:W.heap.size<=w1.heap.size:=hb.size;have U:=ag hb;clear hb)|(refine R2 _ rfl (.tmp 80) (.tmp 83) 26 rfl B 9 i0 (.string ⟨#[]⟩) 1 16 underlying26 HI.out.1 HI.out.2.1 HI.out.2.2.1 HI.out.2.2.2 rfl (by decide) (.slice m.out.a o.length m.out.c) o.length (o.map bO) (by simp[Act.eval,Act.put]) ((aq d.out.2.2.2.2 (TW (λ_=>False) U.out) (λ_ _ h=>h)).alloc _) (dq w1.heap.size 0) 1 1 [.string tl] (by simp[Act.eval,Act.put]) rfl (PL (fK _ _)) (by intro u hu;simp at hu;subst hu;rfl) (by decide) (by unfold maxLen;omega) (by omega) (by simp;omega) (w1.heap.size+1) (by simp) ?_;intro S cap9 E A b G h6;have I:=ag (show aB (λk=>(Value.slice m.out.a o.length m.out.c).ownBlock=some k) W E from T2 (((TW _ U.out).alloc _)) (by first|exact b|exact b.drew) (λk hk _=>hk));have D:aI E M m:=I.out.at d.out.2.1 (λe=>by obtain⟨c,H⟩:=bt d.out.2.2.2.2 e;exact bB d.out.2.1 H (by decide) rfl);have m159:Cl E M 15 (.slice m.out.a m.out.n m.out.c):=D.cell 15;have f9:=D.fz;have X:=ag D;have Z:=ag A;have ha:=ag G;clear A b G h6 D))
  all_goals
   have l:E.heap[w.heap.size]? =some (.cells (cQ 0 0).c 96):=I.out.at d.out.2.2.1 (λe=>by
    obtain⟨c,H⟩:=bt d.out.2.2.2.2 e;exact bB d.out.2.2.1 H (by decide) rfl)
   have h7:M≠w.heap.size:=by omega
   have Q:aB (λk=>k=M) E (E.setCell (dq M 15) (.slice (eb S) (o.length+1) cap9)):=(TU _ _).aY;have K:=Q.at l (λe=>h7 e.symm);have r0:=kd l 0 (Jn 0);have r1:=kd l 1 (Jn 0);have r2:=kd l 2 (.string ⟨#[]⟩);have r3:=kd l 3 (.pointer none);have r4:=kd l 4 (.pointer none);have rf:=ah l;obtain⟨_,q0,q1,q2,q3,q4⟩:=jZ (c:=cQ 9 0) K;have hd:=ag K;have h2:=ag Q;clear l K Q;simp only[dW,cQ] at q0 q1 q2 q3 q4;go_wp2;refine ff (v:=.tuple #[.agg (cQ 9 0).c,Jn 0]) (by simp[results,results190,go_sem,Vc.c,cQ,q0,q1,q2,q3,q4]) rfl ?_;have P:=cU (E.setCell (dq M 15) (.slice (eb S) (o.length+1) cap9)) w.heap.size (Jn 9) (Jn 0) (.string ⟨#[]⟩) (.pointer none) (.pointer none);have hg:aI (E.setCell (dq M 15) (.slice (eb S) (o.length+1) cap9)) M {m with out:=⟨eb S,o.length+1,cap9⟩}:=bE (TH X.out) (by kernel_rfl);have h5:=aq Z.out h2.out (λq hq e=>by
    obtain⟨c,H⟩:=bt Z.out hq;exact bB H X.out (by decide) e)
   have h4:=aq h5 P (λq hq e=>by
    obtain⟨c,H⟩:=bt h5 hq;exact bB H hd.out (by decide) e)
   have N:=hf.out;refine⟨⟨eb S,o.length+1,cap9⟩,rfl,P.at hg (λe=>h7 e),?_,?_,?_⟩
   .rw[s8];rw[he.out] at h4;exact h4
   .rcases ha.out with e|e
    .refine .inl ?_;rw[h0.out];exact e.symm
    .refine .inr (λk hk=> ?_);have:S=k:=pb hk;omega
   .have e1:aB (λk=>k=M\/(Value.slice m.out.a m.out.n m.out.c).ownBlock=some k) w E:=(TW _ d.out.1).trans (I.out.mono (λj hj=>.inr (by rw[h0.out];exact hj))) (λ_ _ h=>h);have e2:=e1.trans (h2.out.mono (λj hj=>.inl hj)) (λ_ _ h=>h);exact e2.trans P (λj hj h=>by omega)
theorem Jy(w:aa)(Y:a9)(M:Nat)(m:Rm)(p:Vc)(l:List Vc)(h:aI w M m)(y:LR w Y m.args (p::l))(I:Y M)(C:l.length<=1001)(u:0<=m.made/\m.made<=100000)(X:(p.k==6)=false)(Z:(p.k==7)=false)(h8:(p.k==8)=false):cl 113 #[Pt M] w (MU w M {m with made:=m.made+1,st:=2,er:=6}):=by
 have H:=h.lt;have k13:=kd h 13 (Jn m.made);obtain⟨gl,Q,t,A,z,b⟩:=cT y I (i:=0) (x:=p) rfl;have D:m.args.n=l.length+1:=y.1;have P:m.args.n<=m.args.c:=y.2.1;have k12:w.cell? ⟨M,12,none⟩=some (.slice (some ⟨gl,Q,none⟩) (l.length+1) m.args.c):=by rw[<-t,<-D];exact h.cell 12
 have hf:=h.fz;obtain⟨R,S,T,U,V⟩:=b w (TU _ _);rw[v7,rn] at R S T U V;have N:=u.1;have O:=u.2;obtain⟨W,r⟩:∃W,W=(w.setCell ⟨M,13,none⟩ (Jn (m.made+1))).alloc (Obj.cells p.c 96):=⟨_,rfl⟩;have d:aI W M {m with made:=m.made+1}:=by rw[r];exact bE (aw (TH h)) (by kernel_rfl)
 have v:aB (λk=>k=M) w W:=by rw[r];exact((TU _ _).aY).alloc _
 have j:W.heap[w.heap.size]? =some (.cells p.c 96):=by
  rw[r];have:=fK (w.setCell ⟨M,13,none⟩ (Jn (m.made+1))) (Obj.cells p.c 96);rw[show(w.setCell ⟨M,13,none⟩ (Jn (m.made+1))).heap.size=w.heap.size by simp[World.setCell]] at this;exact this
 have L:(l.length:Int)<=1001:=by omega
 have K:(l.length:Int)+1<=(m.args.c:Int):=by omega
 have G:=ag r;have F:=ag (ei d (ei v j));have E:=ag (fh W M {m with made:=m.made+1} 6 d);clear h y b t D d v j r;by_cases J:m.args.c=1
 all_goals
  go_enter func113,ntmps113;go_wp2_with fail;have f:=G.out;simp only[Vc.c] at f;rw[<-f];clear f;refine E.out.mono ?_;rintro e w9 ⟨rfl,o,q⟩;have g:=ag (ei o q);clear o q;go_wp2;refine TT ?_;exact⟨rfl,g.out.1,F.out.2.1.trans g.out.2 (λ_ _ h=>h)⟩
theorem Ad(w:aa)(Y:a9)(M:Nat)(m:Rm)(p:Vc)(l:List Vc)(h:aI w M m)(A:LR w Y m.args (p::l))(T:Y M)(F:l.length<=1001)(y:0<=m.made/\m.made<=100000)(g:Nat)(pc:tY)(hp:p=⟨6,0,⟨#[]⟩,none,eb g⟩)(d:b9 w g pc)(h4:¬l.length=pc.names.n):cl 113 #[Pt M] w (MU w M {m with made:=m.made+1,st:=2,er:=7}):=by
 have S:=h.lt;have k13:=kd h 13 (Jn m.made);obtain⟨gl,ol,v,E,D,b⟩:=cT A T (i:=0) (x:=p) rfl;have G:m.args.n=l.length+1:=A.1;have h3:m.args.n<=m.args.c:=A.2.1;have k12:w.cell? ⟨M,12,none⟩=some (.slice (some ⟨gl,ol,none⟩) (l.length+1) m.args.c):=by rw[<-v,<-G];exact h.cell 12
 have hf:=h.fz;obtain⟨I,J,K,L,N⟩:=b w (TU _ _);rw[v7,rn] at I J K L N;have h1:=y.1;have h2:=y.2;obtain⟨W,u⟩:∃W,W=(w.setCell ⟨M,13,none⟩ (Jn (m.made+1))).alloc (Obj.cells p.c 96):=⟨_,rfl⟩;have f:aI W M {m with made:=m.made+1}:=by rw[u];exact bE (aw (TH h)) (by kernel_rfl)
 have z:aB (λk=>k=M) w W:=by rw[u];exact((TU _ _).aY).alloc _
 have q:W.heap[w.heap.size]? =some (.cells p.c 96):=by
  rw[u];have:=fK (w.setCell ⟨M,13,none⟩ (Jn (m.made+1))) (Obj.cells p.c 96);rw[show(w.setCell ⟨M,13,none⟩ (Jn (m.made+1))).heap.size=w.heap.size by simp[World.setCell]] at this;exact this
 have h0:(l.length:Int)<=1001:=by omega
 have Z:(l.length:Int)+1<=(m.args.c:Int):=by omega
 have Q:=ag u;have P:=ag (ei f (ei z q));have X:g<w.heap.size:=ai d;have C:g≠M:=bB d h (by decide);have V:g<w.heap.size+1:=by omega
 have R:M≠g:=λe=>C e.symm;have b0:=kd d 0 (.slice pc.names.a pc.names.n pc.names.c);have b1:=kd d 1 (.slice pc.body.a pc.body.n pc.body.c);have b2:=kd d 2 (.pointer pc.fr);have b3:=kd d 3 (.pointer pc.ch);have b4:=kd d 4 (Jn pc.form);rw[hp] at I J K L N;have H:¬((l.length:Int)=(pc.names.n:Int)):=by omega
 subst hp;have O:=ag (fh W M {m with made:=m.made+1} 7 f);clear h A b v G f z q u d;by_cases U:m.args.c=1
 all_goals
  go_enter func113,ntmps113;go_wp2_with fail;have j:=Q.out;simp only[Vc.c] at j;rw[<-j];clear j;refine O.out.mono ?_;rintro e w9 ⟨rfl,r,t⟩;have o:=ag (ei r t);clear r t;go_wp2;refine TT ?_;exact⟨rfl,o.out.1,P.out.2.1.trans o.out.2 (λ_ _ h=>h)⟩
theorem Af(w:aa)(Y:a9)(M:Nat)(m:Rm)(p:Vc)(l:List Vc)(h:aI w M m)(A:LR w Y m.args (p::l))(T:Y M)(F:l.length<=1001)(y:0<=m.made/\m.made<=100000)(g:Nat)(pc:tY)(hp:p=⟨8,0,⟨#[]⟩,none,eb g⟩)(d:b9 w g pc)(h4:¬l.length=1):cl 113 #[Pt M] w (MU w M {m with made:=m.made+1,st:=2,er:=7}):=by
 have S:=h.lt;have k13:=kd h 13 (Jn m.made);obtain⟨gl,ol,v,E,D,b⟩:=cT A T (i:=0) (x:=p) rfl;have G:m.args.n=l.length+1:=A.1;have h3:m.args.n<=m.args.c:=A.2.1;have k12:w.cell? ⟨M,12,none⟩=some (.slice (some ⟨gl,ol,none⟩) (l.length+1) m.args.c):=by rw[<-v,<-G];exact h.cell 12
 have hf:=h.fz;obtain⟨I,J,K,L,N⟩:=b w (TU _ _);rw[v7,rn] at I J K L N;have h1:=y.1;have h2:=y.2;obtain⟨W,u⟩:∃W,W=(w.setCell ⟨M,13,none⟩ (Jn (m.made+1))).alloc (Obj.cells p.c 96):=⟨_,rfl⟩;have f:aI W M {m with made:=m.made+1}:=by rw[u];exact bE (aw (TH h)) (by kernel_rfl)
 have z:aB (λk=>k=M) w W:=by rw[u];exact((TU _ _).aY).alloc _
 have q:W.heap[w.heap.size]? =some (.cells p.c 96):=by
  rw[u];have:=fK (w.setCell ⟨M,13,none⟩ (Jn (m.made+1))) (Obj.cells p.c 96);rw[show(w.setCell ⟨M,13,none⟩ (Jn (m.made+1))).heap.size=w.heap.size by simp[World.setCell]] at this;exact this
 have h0:(l.length:Int)<=1001:=by omega
 have Z:(l.length:Int)+1<=(m.args.c:Int):=by omega
 have Q:=ag u;have P:=ag (ei f (ei z q));have X:g<w.heap.size:=ai d;have C:g≠M:=bB d h (by decide);have V:g<w.heap.size+1:=by omega
 have R:M≠g:=λe=>C e.symm;have b0:=kd d 0 (.slice pc.names.a pc.names.n pc.names.c);have b1:=kd d 1 (.slice pc.body.a pc.body.n pc.body.c);have b2:=kd d 2 (.pointer pc.fr);have b3:=kd d 3 (.pointer pc.ch);have b4:=kd d 4 (Jn pc.form);rw[hp] at I J K L N;have H:¬((l.length:Int)=1):=by omega
 subst hp;have O:=ag (fh W M {m with made:=m.made+1} 7 f);clear h A b v G f z q u d;by_cases U:m.args.c=1
 all_goals
  go_enter func113,ntmps113;go_wp2_with fail;have j:=Q.out;simp only[Vc.c] at j;rw[<-j];clear j;refine O.out.mono ?_;rintro e w9 ⟨rfl,r,t⟩;have o:=ag (ei r t);clear r t;go_wp2;refine TT ?_;exact⟨rfl,o.out.1,P.out.2.1.trans o.out.2 (λ_ _ h=>h)⟩
theorem Ae(w:aa)(Y:a9)(M:Nat)(m:Rm)(p:Vc)(l:List Vc)(h:aI w M m)(A:LR w Y m.args (p::l))(T:Y M)(H:l.length<=1001)(u:0<=m.made/\m.made<=100000)(k:Nat)(s:au)(hs:aP[k]? =some s)(hp:p=⟨7,0,⟨s.toArray⟩,none,none⟩)(E:¬l.length=eD k):cl 113 #[Pt M] w (MU w M {m with made:=m.made+1,st:=2,er:=7}):=by
 have S:=h.lt;have k13:=kd h 13 (Jn m.made);obtain⟨gl,ol,t,G,F,b⟩:=cT A T (i:=0) (x:=p) rfl;have I:m.args.n=l.length+1:=A.1;have h1:m.args.n<=m.args.c:=A.2.1;have k12:w.cell? ⟨M,12,none⟩=some (.slice (some ⟨gl,ol,none⟩) (l.length+1) m.args.c):=by rw[<-t,<-I];exact h.cell 12
 have hf:=h.fz;obtain⟨K,L,N,O,P⟩:=b w (TU _ _);rw[v7,rn] at K L N O P;have Z:=u.1;have h0:=u.2;obtain⟨W,r⟩:∃W,W=(w.setCell ⟨M,13,none⟩ (Jn (m.made+1))).alloc (Obj.cells p.c 96):=⟨_,rfl⟩;have d:aI W M {m with made:=m.made+1}:=by rw[r];exact bE (aw (TH h)) (by kernel_rfl)
 have v:aB (λk=>k=M) w W:=by rw[r];exact((TU _ _).aY).alloc _
 have j:W.heap[w.heap.size]? =some (.cells p.c 96):=by
  rw[r];have:=fK (w.setCell ⟨M,13,none⟩ (Jn (m.made+1))) (Obj.cells p.c 96);rw[show(w.setCell ⟨M,13,none⟩ (Jn (m.made+1))).heap.size=w.heap.size by simp[World.setCell]] at this;exact this
 have X:(l.length:Int)<=1001:=by omega
 have V:(l.length:Int)+1<=(m.args.c:Int):=by omega
 have D:=ag r;have R:=ag (ei d (ei v j));have g:=ag (λW=>oO W k s hs);obtain⟨z,C⟩:∃z:ao,z=⟨s.toArray⟩:=⟨_,rfl⟩;rw[<-C] at g;rw[hp,<-C] at K L N O P;subst hp;simp only[Vc.c] at D;rw[<-C] at D;have J:¬((l.length:Int)=((eD k:Nat):Int)):=by omega
 generalize ((eD k:Nat):Int)=nk at *
 have Q:=ag (fh W M {m with made:=m.made+1} 7 d);clear h A b t I d v j r C E;by_cases U:m.args.c=1
 all_goals
  go_enter func113,ntmps113;go_wp2_with fail;rw[<-D.out];refine(g.out _).mono ?_;rintro e w8 ⟨rfl,y⟩;obtain rfl:W=w8:=y.symm;clear y;go_wp2_with fail;refine Q.out.mono ?_;rintro e w9 ⟨rfl,o,q⟩;have f:=ag (ei o q);clear o q;go_wp2;refine TT ?_;exact⟨rfl,f.out.1,R.out.2.1.trans f.out.2 (λ_ _ h=>h)⟩
theorem Jz(w:aa)(Y:a9)(M:Nat)(m:Rm)(p x:Vc)(h:aI w M m)(u:LR w Y m.args [p,x])(L:Y M)(E:0<=m.made/\m.made<=100000)(g:Nat)(pc:tY)(hp:p=⟨8,0,⟨#[]⟩,none,eb g⟩)(j:b9 w g pc):cl 113 #[Pt M] w (MU w M {m with made:=m.made+1,ch:=pc.ch,form:=pc.form,mode:=2,v:=x}):=by
 have h3:=h.lt;have k13:=kd h 13 (Jn m.made);obtain⟨gl,ol,o,Q,P,d⟩:=cT u L (i:=0) (x:=p) rfl;have R:m.args.n=2:=u.1;have ha:m.args.n<=m.args.c:=u.2.1;have k12:w.cell? ⟨M,12,none⟩=some (.slice (some ⟨gl,ol,none⟩) (2) m.args.c):=by rw[<-o,<-R];exact h.cell 12
 have hf:=h.fz;obtain⟨S,T,U,V,X⟩:=d w (TU _ _);rw[v7,rn] at S T U V X;have h8:=E.1;have h9:=E.2;obtain⟨W,D⟩:∃W,W=(w.setCell ⟨M,13,none⟩ (Jn (m.made+1))).alloc (Obj.cells p.c 96):=⟨_,rfl⟩;have y:aI W M {m with made:=m.made+1}:=by rw[D];exact bE (aw (TH h)) (by kernel_rfl)
 have F:aB (λk=>k=M) w W:=by rw[D];exact((TU _ _).aY).alloc _
 have t:W.heap[w.heap.size]? =some (.cells p.c 96):=by
  rw[D];have:=fK (w.setCell ⟨M,13,none⟩ (Jn (m.made+1))) (Obj.cells p.c 96);rw[show(w.setCell ⟨M,13,none⟩ (Jn (m.made+1))).heap.size=w.heap.size by simp[World.setCell]] at this;exact this
 have h7:(2:Int)<=(m.args.c:Int):=by omega
 have HW:=ag D;have HH:=ag (ei y (ei F t));have h6:g<w.heap.size:=ai j;have K:g≠M:=bB j h (by decide);have h5:g<w.heap.size+1:=by omega
 have h2:M≠g:=λe=>K e.symm;have b0:=kd j 0 (.slice pc.names.a pc.names.n pc.names.c);have b1:=kd j 1 (.slice pc.body.a pc.body.n pc.body.c);have b2:=kd j 2 (.pointer pc.fr);have b3:=kd j 3 (.pointer pc.ch);have b4:=kd j 4 (Jn pc.form);rw[hp] at S T U V X;obtain⟨h0,hb,l,_,_,b⟩:=cT u L (i:=1) (x:=x) rfl;rw[o] at l;cases l;obtain⟨t0,t1,t2,t3,t4⟩:=b w (TU _ _);rw[PS] at t0 t1 t2 t3 t4;have h4:¬m.args.c=1:=by omega
 have O:gl<w.heap.size+1:=by omega
 have k1:=kd h 1 (Jn m.form);have k11:=kd h 11 (.pointer m.ch);have h1:M<w.heap.size+1:=by omega
 have N:w.heap.size≠M:=by omega
 subst hp;have J:=HH.out;obtain⟨r,f⟩:∃r,r=((w.setCell ⟨M,13,none⟩ (Jn (m.made+1))).setCell ⟨M,11,none⟩ (.pointer pc.ch)).setCell ⟨M,1,none⟩ (Jn pc.form):=⟨_,rfl⟩;have z:aI r M {m with made:=m.made+1,ch:=pc.ch,form:=pc.form}:=by rw[f];exact bE (TH (TH (TH h))) (by kernel_rfl)
 have G:aB (λk=>k=M) w r:=by rw[f];exact(TU _ _).aY.aY.aY
 have Z:=ag (λob=>dL (r.alloc ob) M {m with made:=m.made+1,ch:=pc.ch,form:=pc.form} x (z.alloc ob));have H:=ag G;have I:=ag f;clear h u d b o R y F t D j J z G f;go_enter func113,ntmps113;go_wp2_with fail;rw[<-I.out];refine(Z.out _).mono ?_;rintro e w9 ⟨rfl,A,C⟩;have q:=ag (ei A C);clear A C;go_wp2;refine TT ?_;exact⟨rfl,q.out.1,(H.out.alloc _).trans q.out.2 (λ_ _ h=>h)⟩
def Rq(M:Nat)(P:Vc->Int->Rm->aa->Prop)(w':aa):Prop:=∃c er a w1,P c er a w1/\((er=0/\aI w' M {a with mode:=2,v:=c}/\aB (λk=>k=M) w1 w')\/(¬er=0/\aI w' M {a with st:=2,er:=er}/\aB (λk=>k=M) w1 w'))
theorem BW(b:aP[k]? =some s)(e:k≠13):(s==[99,97,108,108,47,99,99])=false:=by
 have d:=ej b;have c:k=0\/k=1\/k=2\/k=3\/k=4\/k=5\/k=6\/k=7\/k=8\/k=9\/k=10\/k=11\/k=12:=by omega
 rcases c with rfl|rfl|rfl|rfl|rfl|rfl|rfl|rfl|rfl|rfl|rfl|rfl|rfl
 all_goals
  cases b;rfl
set_option maxHeartbeats 8000000 in
theorem ss(w:aa)(Y:a9)(M:Nat)(m:Rm)(p:Vc)(l:List Vc)(h:aI w M m)(E:LR w Y m.args (p::l))(T:Y M)(Z:l.length<=1001)(I:0<=m.made/\m.made<=100000)(k:Nat)(s:au)(hs:aP[k]? =some s)(hp:p=⟨7,0,⟨s.toArray⟩,none,none⟩)(q:l.length=eD k)(hk:k≠13)(h5:0<l.length)(P:Vc->Int->Rm->aa->Prop)(O:∀(W:aa) (u:Sl),aB (λk=>k=M) w W->aI W M {m with made:=m.made+1}->LR W Y u l->cl 190 #[Pt M,.string ⟨s.toArray⟩,.slice u.a u.n u.c] W (λe w1=>∃c er y,e=.returned (.tuple #[.agg c.c,Jn er])/\aI w1 M y/\P c er y w1)):cl 113 #[Pt M] w (cA (Rq M P)):=by
 have h1:=h.lt;have k13:=kd h 13 (Jn m.made);obtain⟨gl,ol,v,X,V,j⟩:=cT E T (i:=0) (x:=p) rfl;have hn:m.args.n=l.length+1:=E.1;have h8:m.args.n<=m.args.c:=E.2.1;have k12:w.cell? ⟨M,12,none⟩=some (.slice (some ⟨gl,ol,none⟩) (l.length+1) m.args.c):=by rw[<-v,<-hn];exact h.cell 12
 have hf:=h.fz;obtain⟨s0,s1,s2,s3,s4⟩:=j w (TU _ _);rw[v7,rn] at s0 s1 s2 s3 s4;have h6:=I.1;have h7:=I.2;obtain⟨W,F⟩:∃W,W=(w.setCell ⟨M,13,none⟩ (Jn (m.made+1))).alloc (Obj.cells p.c 96):=⟨_,rfl⟩;have t:aI W M {m with made:=m.made+1}:=by rw[F];exact bE (aw (TH h)) (by kernel_rfl)
 have o:aB (λk=>k=M) w W:=by rw[F];exact((TU _ _).aY).alloc _
 have D:W.heap[w.heap.size]? =some (.cells p.c 96):=by
  rw[F];have:=fK (w.setCell ⟨M,13,none⟩ (Jn (m.made+1))) (Obj.cells p.c 96);rw[show(w.setCell ⟨M,13,none⟩ (Jn (m.made+1))).heap.size=w.heap.size by simp[World.setCell]] at this;exact this
 have h4:(l.length:Int)<=1001:=by omega
 have h3:(l.length:Int)+1<=(m.args.c:Int):=by omega
 have N:=ag F;have HH:=ag (ei t (ei o D));have r:=ag (λW=>oO W k s hs);have C:=ag (O W ⟨some ⟨gl,ol+5,none⟩,l.length,m.args.c-1⟩ o t ((E.tail v).mi T o));obtain⟨z,A⟩:∃z:ao,z=⟨s.toArray⟩:=⟨_,rfl⟩;have h9:(z.toList==[99,97,108,108,47,99,99])=false:=by rw[A,C3];exact BW hs hk
 rw[<-A] at r C;rw[<-q] at r;rw[hp,<-A] at s0 s1 s2 s3 s4;subst hp;simp only[Vc.c] at N;rw[<-A] at N;have G:=HH.out.2.2;have U:W.cell? ⟨w.heap.size,2,none⟩=some (.string z):=by rw[A];exact ae G 2
 have h2:¬m.args.c=1:=by omega
 clear h E j v hn t o D F A O q G;go_enter func113,ntmps113;go_wp2_with fail;rw[<-N.out];refine(r.out _).mono ?_;rintro e w8 ⟨rfl,J⟩;obtain rfl:W=w8:=J.symm;clear J;go_wp2_with fail;refine C.out.mono ?_;rintro e w1 ⟨c,er,y,rfl,b,S⟩;have Q:=ag S;have R:=b.lt;have h0:=ag b;unfold Vc.c;clear S;by_cases H:er=0
 .subst H;have K:=ag (λob=>dL (w1.alloc ob) M y c (b.alloc ob));clear b;go_wp2_with fail;refine(K.out _).mono ?_;rintro e w9 ⟨rfl,f,g⟩;have d:=ag (ei f g);clear f g;go_wp2;refine TT ?_;exact⟨rfl,c,0,y,w1,Q.out,.inl ⟨rfl,d.out.1,((TU _ w1).alloc _).trans d.out.2 (λ_ _ h=>h)⟩⟩
 .have L:=ag (λob=>fh (w1.alloc ob) M y er (b.alloc ob));clear b;go_wp2_with fail;refine(L.out _).mono ?_;rintro e w9 ⟨rfl,f,g⟩;have d:=ag (ei f g);clear f g;go_wp2;refine TT ?_;exact⟨rfl,c,er,y,w1,Q.out,.inr ⟨H,d.out.1,((TU _ w1).alloc _).trans d.out.2 (λ_ _ h=>h)⟩⟩
def Rp(w:aa)(M:Nat)(m:Rm)(x:Vc)(w':aa):Prop:=∃(G:Nat) (u:Sl),w.heap.size<=G/\b9 w' G ⟨ef,ef,none,m.ch,m.form⟩/\Row w.heap.size w' (.slice u.a u.n u.c) [x,⟨8,0,⟨#[]⟩,none,eb G⟩]/\aI w' M {m with made:=m.made+1,args:=u}/\aB (λk=>k=M) w w'
set_option maxHeartbeats 8000000 in
theorem MX(w:aa)(Y:a9)(M:Nat)(m:Rm)(p x:Vc)(h:aI w M m)(D:LR w Y m.args [p,x])(Q:Y M)(F:0<=m.made/\m.made<=100000)(hp:p=⟨7,0,⟨#[99,97,108,108,47,99,99]⟩,none,none⟩):cl 113 #[Pt M] w (cA (Rp w M m x)):=by
 have h2:=h.lt;have k13:=kd h 13 (Jn m.made);obtain⟨gl,ol,z,U,S,l⟩:=cT D Q (i:=0) (x:=p) rfl;have V:m.args.n=2:=D.1;have h7:m.args.n<=m.args.c:=D.2.1;have k12:w.cell? ⟨M,12,none⟩=some (.slice (some ⟨gl,ol,none⟩) (2) m.args.c):=by rw[<-z,<-V];exact h.cell 12
 have hf:=h.fz;obtain⟨X,Z,s2,s3,s4⟩:=l w (TU _ _);rw[v7,rn] at X Z s2 s3 s4;have h5:=F.1;have h6:=F.2;obtain⟨W,E⟩:∃W,W=(w.setCell ⟨M,13,none⟩ (Jn (m.made+1))).alloc (Obj.cells p.c 96):=⟨_,rfl⟩;have g:aI W M {m with made:=m.made+1}:=by rw[E];exact bE (aw (TH h)) (by kernel_rfl)
 have q:aB (λk=>k=M) w W:=by rw[E];exact((TU _ _).aY).alloc _
 have C:W.heap[w.heap.size]? =some (.cells p.c 96):=by
  rw[E];have:=fK (w.setCell ⟨M,13,none⟩ (Jn (m.made+1))) (Obj.cells p.c 96);rw[show(w.setCell ⟨M,13,none⟩ (Jn (m.made+1))).heap.size=w.heap.size by simp[World.setCell]] at this;exact this
 have h4:(2:Int)<=(m.args.c:Int):=by omega
 have L:=ag E;have t:=ag (ei g (ei q C));obtain⟨h0,h8,r,_,_,j⟩:=cT D Q (i:=1) (x:=x) rfl;rw[z] at r;cases r;obtain⟨t0,t1,t2,t3,t4⟩:=j W q;rw[PS] at t0 t1 t2 t3 t4;have H:Hid (∀W,cl 189 #[.string ⟨#[99,97,108,108,47,99,99]⟩] W (bD (Jn 1) W)):=λW=>oO W 13 [99,97,108,108,47,99,99] rfl;have h3:¬m.args.c=1:=by omega
 have q1:=kd g 1 (Jn m.form);have q11:=kd g 11 (.pointer m.ch);have q12:=kd g 12 (.slice m.args.a m.args.n m.args.c);have qf:=g.fz;have h1:=g.lt;have T:gl<W.heap.size:=by have:=q.size;omega
 have N:M<W.heap.size+1:=by omega
 have O:M<W.heap.size+1+1:=by omega
 have P:M<W.heap.size+1+1+1:=by omega
 have I:gl<W.heap.size+1:=by omega
 have J:gl<W.heap.size+1+1:=by omega
 rw[hp] at X Z s2 s3 s4;subst hp;simp only[Vc.c] at L;have R:=kd t.out.2.2 2 (.string ⟨#[99,97,108,108,47,99,99]⟩);clear h D l j z V g q C E;go_enter func113,ntmps113;go_wp2_with fail;rw[<-L.out];refine(H.out _).mono ?_;rintro e w8 ⟨rfl,G⟩;obtain rfl:W=w8:=G.symm;clear G;go_wp2;go_region
 .go_wp2;go_region;go_wp2;refine TT ?_;obtain⟨d,b⟩:∃d,d=W.setCell ⟨M,12,none⟩ (.slice (eb (W.heap.size+1+1)) 2 2):=⟨_,rfl⟩;have o:d.heap.size=W.heap.size:=by rw[b];simp[World.setCell]
  have u:aI d M {m with made:=m.made+1,args:=⟨eb (W.heap.size+1+1),2,2⟩}:=by rw[b];exact bE (TH t.out.1) (by kernel_rfl)
  have A:aB (λk=>k=M) w d:=by rw[b];exact t.out.2.1.aY
  have K:=t.out.2.1.size;rw[<-b];have v:(d.alloc (.cells #[.slice none 0 0,.slice none 0 0,.pointer none,.pointer m.ch,Jn m.form] 307)).heap[W.heap.size]? =some (.cells (⟨ef,ef,none,m.ch,m.form⟩:tY).c 307):=by
   rw[<-o];exact fK _ _
  have y:(((d.alloc (.cells #[.slice none 0 0,.slice none 0 0,.pointer none,.pointer m.ch,Jn m.form] 307)).alloc (.cells #[Jn 8,Jn 0,.string ⟨#[]⟩,.pointer none,Pt W.heap.size] 96)).alloc (.cells #[Jn x.k,Jn x.n,.string x.s,.pointer x.p,.pointer x.f,Jn 8,Jn 0,.string ⟨#[]⟩,.pointer none,Pt W.heap.size] 96)).heap[W.heap.size+1+1]? =some (.cells #[Jn x.k,Jn x.n,.string x.s,.pointer x.p,.pointer x.f,Jn 8,Jn 0,.string ⟨#[]⟩,.pointer none,Pt W.heap.size] 96):=by
   rw[aQ,fN (by simp[o])]
  refine⟨rfl,W.heap.size,⟨eb (W.heap.size+1+1),2,2⟩,by omega,?_,?_,?_,?_⟩
  .exact aw (aw v)
  .exact⟨rfl,.inr ⟨W.heap.size+1+1,2,_,rfl,by omega,y,ew 2,by unfold maxLen;omega,rfl,rfl⟩⟩
  .exact((u.alloc _).alloc _).alloc _
  .exact((((A.alloc _).alloc _).alloc _).drew).drew
 .go_wp2;go_region;go_wp2;refine TT ?_;obtain⟨d,b⟩:∃d,d=W.setCell ⟨M,12,none⟩ (.slice (eb (W.heap.size+1+1)) 2 2):=⟨_,rfl⟩;have o:d.heap.size=W.heap.size:=by rw[b];simp[World.setCell]
  have u:aI d M {m with made:=m.made+1,args:=⟨eb (W.heap.size+1+1),2,2⟩}:=by rw[b];exact bE (TH t.out.1) (by kernel_rfl)
  have A:aB (λk=>k=M) w d:=by rw[b];exact t.out.2.1.aY
  have K:=t.out.2.1.size;rw[<-b];have v:((d.alloc (.cells #[Jn 8,Jn 0,.string ⟨#[]⟩,.pointer none,Pt (W.heap.size+1)] 96)).alloc (.cells #[.slice none 0 0,.slice none 0 0,.pointer none,.pointer m.ch,Jn m.form] 307)).heap[W.heap.size+1]? =some (.cells (⟨ef,ef,none,m.ch,m.form⟩:tY).c 307):=by
   rw[aQ,fN (by simp[o])];rfl
  have y:(((d.alloc (.cells #[Jn 8,Jn 0,.string ⟨#[]⟩,.pointer none,Pt (W.heap.size+1)] 96)).alloc (.cells #[.slice none 0 0,.slice none 0 0,.pointer none,.pointer m.ch,Jn m.form] 307)).alloc (.cells #[Jn x.k,Jn x.n,.string x.s,.pointer x.p,.pointer x.f,Jn 8,Jn 0,.string ⟨#[]⟩,.pointer none,Pt (W.heap.size+1)] 96)).heap[W.heap.size+1+1]? =some (.cells #[Jn x.k,Jn x.n,.string x.s,.pointer x.p,.pointer x.f,Jn 8,Jn 0,.string ⟨#[]⟩,.pointer none,Pt (W.heap.size+1)] 96):=by
   rw[aQ,fN (by simp[o])]
  refine⟨rfl,W.heap.size+1,⟨eb (W.heap.size+1+1),2,2⟩,by omega,?_,?_,?_,?_⟩
  .exact aw v
  .exact⟨rfl,.inr ⟨W.heap.size+1+1,2,_,rfl,by omega,y,ew 2,by unfold maxLen;omega,rfl,rfl⟩⟩
  .exact((u.alloc _).alloc _).alloc _
  .exact((((A.alloc _).alloc _).alloc _).drew).drew
end Go.Proofs.YtlobegpjenabaaaGreatDoor
