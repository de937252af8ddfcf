import Derived.Test.YtlobegpjenabaaaGreatDoorT15
namespace Go.Proofs.YtlobegpjenabaaaGreatDoor
open Go.RowKit Tryz
set_option linter.unusedVariables false
set_option maxRecDepth 100000
set_option maxHeartbeats 4000000
variable {B K M gf:Nat} {ow mo mf:Nat->Option Nat} {C:Cd} {s:MS} {app args u x y:al} {a:V} {t T:bi} {xs:a7}
theorem RS.jO{w:aa}{X:a9}{b:Nat}{val out:al}{top:a8}(h:RS B K w X ow mo mf M b C s val app args out top gf)(d:w.heap[M]? =some (.cells (eL b s.pc val (aD gf) app args (.pointer top) out 0 0 0 ⟨#[]⟩) 119))(f:En)(r:List En)(j:s.st=f::r):∃g gf0,mf f.fr=some gf0/\cP w M g gf0 f.nx s.pc (aD gf) val:=by
 obtain⟨l,k1,k2,k3,m,n,k6,p,v,z,k10,k11⟩:=bq d;have c:=h.st;rw[j] at c;obtain⟨g,q,gf0,got,rfl,e,i,_,_,_,k⟩:=c;exact⟨g,gf0,i,aU e d (by decide),ai d,ai e,k6,k1,k2,k3,λo=>ah d o,by rw[ae e];rfl,by rw[ae e];rfl⟩
theorem RS.given{w:aa}{X:a9}{b:Nat}{val out:al}{top:a8}(h:RS B K w X ow mo mf M b C s val app args out top gf)(d:w.heap[M]? =some (.cells (eL b s.pc val (aD gf) app args (.pointer top) out 0 0 0 ⟨#[]⟩) 119))(c:En)(r:List En)(j:s.st=c::r)(gf0:Nat)(e:mf c.fr=some gf0)(v:V)(t:bi)(x:al)(i:VX w mo v (.iface t x)):
  ∃X' ow',MR B K (cO w M gf0 c.nx (.iface t x)) X' ow' M b C {s with val:=some v,pc:=c.nx,fr:=c.fr,app:=none}/\Gw X ow w X' ow' (cO w M gf0 c.nx (.iface t x)):=by
 have f:aB (λk=>k=M) w (cO w M gf0 c.nx (.iface t x)):=(((aY w M 2 _).setCell (dq M 1) _ (λ_=>rfl)).setCell (dq M 3) _ (λ_=>rfl)).drew;exact h.go d f {s with val:=some v,pc:=c.nx,fr:=c.fr,app:=none} (.iface t x) app args top gf0 ((TH (TH (TH d))).trans rfl) rfl rfl rfl λg=>⟨i.cG d f,e,trivial,g.st⟩
theorem Gw.drew{X:a9}{w:aa}:Gw X ow w X ow w.drew:=⟨(TU _ _).drew,λ_ _ h _=>h,λ_ _ h=>h,λ_ _ h=>h⟩
theorem CS{w:aa}{own:a9}(h:Rw w 81 own own u [x,y]):∃e b d c,u=.slice (some (dq e b)) 2 d/\w.heap[e]? =some (Obj.cells c 81 (0,0))/\Cl w e b x/\Cl w e (b+1) y:=by
 obtain⟨a,d,rfl,_,_,_,f⟩:=h.at;obtain⟨g,b,c,rfl,_,h1,h2⟩:=f 0 (by simp);obtain⟨k,off',j,i,_,_,h3⟩:=f 1 (by simp);cases i;exact⟨g,b,d,c,rfl,h1,h2,h3⟩
theorem kT{w:aa}{own:a9}(h:Rw w 81 own own u [x]):∃e b d c,u=.slice (some (dq e b)) 1 d/\w.heap[e]? =some (Obj.cells c 81 (0,0))/\Cl w e b x:=by
 obtain⟨a,d,rfl,_,_,_,f⟩:=h.at;obtain⟨g,b,c,rfl,_,h1,h2⟩:=f 0 (by simp);exact⟨g,b,d,c,rfl,h1,h2⟩
theorem Ck(v:al)(w:aa):(Instr.typeAssert (.iface 131 v) 81 130 true).run prog w=.ok (.tuple #[Jn 0,.bool false]) w:=by kernel_rfl
theorem Fu(v:al)(w:aa):(Instr.typeAssert (.iface 134 v) 81 130 true).run prog w=.ok (.tuple #[Jn 0,.bool false]) w:=by kernel_rfl
theorem zP(v:al)(w:aa):(Instr.typeAssert (.iface 207 v) 81 130 true).run prog w=.ok (.tuple #[Jn 0,.bool false]) w:=by kernel_rfl
theorem tH(v:al)(w:aa):(Instr.typeAssert (.iface 259 v) 81 130 true).run prog w=.ok (.tuple #[Jn 0,.bool false]) w:=by kernel_rfl
theorem Cn(v:al)(w:aa):(Instr.typeAssert (.iface 136 v) 81 130 true).run prog w=.ok (.tuple #[Jn 0,.bool false]) w:=by kernel_rfl
theorem Co(v:al)(w:aa):(Instr.typeAssert (.iface 216 v) 81 130 true).run prog w=.ok (.tuple #[Jn 0,.bool false]) w:=by kernel_rfl
theorem Cp(v:al)(w:aa):(Instr.typeAssert (.iface 130 v) 81 136 true).run prog w=.ok (.tuple #[.pointer none,.bool false]) w:=by kernel_rfl
theorem zQ(v:al)(w:aa):(Instr.typeAssert (.iface 131 v) 81 136 true).run prog w=.ok (.tuple #[.pointer none,.bool false]) w:=by kernel_rfl
theorem Cq(v:al)(w:aa):(Instr.typeAssert (.iface 134 v) 81 136 true).run prog w=.ok (.tuple #[.pointer none,.bool false]) w:=by kernel_rfl
theorem wO(v:al)(w:aa):(Instr.typeAssert (.iface 207 v) 81 136 true).run prog w=.ok (.tuple #[.pointer none,.bool false]) w:=by kernel_rfl
theorem r8(v:al)(w:aa):(Instr.typeAssert (.iface 259 v) 81 136 true).run prog w=.ok (.tuple #[.pointer none,.bool false]) w:=by kernel_rfl
theorem zR(v:al)(w:aa):(Instr.typeAssert (.iface 216 v) 81 136 true).run prog w=.ok (.tuple #[.pointer none,.bool false]) w:=by kernel_rfl
theorem Cr(v:al)(w:aa):(Instr.typeAssert (.iface 130 v) 81 216 true).run prog w=.ok (.tuple #[.pointer none,.bool false]) w:=by kernel_rfl
theorem zS(v:al)(w:aa):(Instr.typeAssert (.iface 131 v) 81 216 true).run prog w=.ok (.tuple #[.pointer none,.bool false]) w:=by kernel_rfl
theorem Cs(v:al)(w:aa):(Instr.typeAssert (.iface 134 v) 81 216 true).run prog w=.ok (.tuple #[.pointer none,.bool false]) w:=by kernel_rfl
theorem wP(v:al)(w:aa):(Instr.typeAssert (.iface 207 v) 81 216 true).run prog w=.ok (.tuple #[.pointer none,.bool false]) w:=by kernel_rfl
theorem r9(v:al)(w:aa):(Instr.typeAssert (.iface 259 v) 81 216 true).run prog w=.ok (.tuple #[.pointer none,.bool false]) w:=by kernel_rfl
theorem zT(v:al)(w:aa):(Instr.typeAssert (.iface 136 v) 81 216 true).run prog w=.ok (.tuple #[.pointer none,.bool false]) w:=by kernel_rfl
theorem DU{w:aa}(b:VX w mo a (.iface t x))(c:∀k,a≠.int k)(W:aa):(Instr.typeAssert (.iface t x) 81 130 true).run prog W=.ok (.tuple #[Jn 0,.bool false]) W:=by
 cases a with
 |int n=>exact absurd rfl (c n)
 |bool q=>cases b;exact Ck _ W
 |sym s=>obtain⟨e,_⟩:=b;cases e;exact Fu _ W
 |empty=>cases b;exact zP _ W
 |nothing=>cases b;exact tH _ W
 |pair i p q=>obtain⟨g,u,v,_,e,_⟩:=b;cases e;exact Cn _ W
 |proc i=>obtain⟨_,g,_,e⟩:=b;cases e;exact Co _ W
theorem r7{w:aa}(b:VX w mo a (.iface t x))(c:∀i p q,a≠.pair i p q)(W:aa):(Instr.typeAssert (.iface t x) 81 136 true).run prog W=.ok (.tuple #[.pointer none,.bool false]) W:=by
 cases a with
 |int n=>obtain⟨e,_⟩:=b;cases e;exact Cp _ W
 |bool q=>cases b;exact zQ _ W
 |sym s=>obtain⟨e,_⟩:=b;cases e;exact Cq _ W
 |empty=>cases b;exact wO _ W
 |nothing=>cases b;exact r8 _ W
 |pair i p q=>exact absurd rfl (c i p q)
 |proc i=>obtain⟨_,g,_,e⟩:=b;cases e;exact zR _ W
theorem O0{w:aa}(b:VX w mo a (.iface t x))(c:∀i,a≠.proc i)(W:aa):(Instr.typeAssert (.iface t x) 81 216 true).run prog W=.ok (.tuple #[.pointer none,.bool false]) W:=by
 cases a with
 |int n=>obtain⟨e,_⟩:=b;cases e;exact Cr _ W
 |bool q=>cases b;exact zS _ W
 |sym s=>obtain⟨e,_⟩:=b;cases e;exact Cs _ W
 |empty=>cases b;exact wP _ W
 |nothing=>cases b;exact r9 _ W
 |pair i p q=>obtain⟨g,u,v,_,e,_⟩:=b;cases e;exact zT _ W
 |proc i=>exact absurd rfl (c i)
theorem d8{w:aa}{X:a9}{b:Nat}{val out:al}{top:a8}(h:RS B K w X ow mo mf M b C s val app args out top gf)(c:w.heap[M]? =some (Obj.cells (eL b s.pc val (aD gf) app args (.pointer top) out 0 0 0 ⟨#[]⟩) 119 (0,0)))(er:Int)(z:ao)(w':aa)(i:∃n,w'=w.drewN n)(f:eE {s with app:=none} er≠.bad):aV B K X ow w M b C (eE {s with app:=none} er) (.returned (mW z (dR er))) w':=by
 obtain⟨n,rfl⟩:=i;have d:Below w.heap.size w (w.drewN n):=⟨rfl,rfl,rfl,ew _,λ_ _=>rfl⟩;have g:=(h.below c d).sy {s with app:=none} val app args top gf rfl rfl rfl (h.below c d).val h.fr trivial (h.below c d).st;unfold eE at *;cases hst:s.st with
 |nil=>rw[hst] at f;exact absurd rfl f
 |cons e r=>exact⟨_,1,rfl,ew _,⟨z,_,rfl,rfl⟩,X,ow,{s with app:=none},MR.self g c,⟨(TU _ _).drewN n,λ_ _ h _=>h,λ_ _ h=>h,λ_ _ h=>h⟩,by rw[hst];rfl,rfl⟩
theorem uB(s:MS)(f:Int->Int->V)(a b:V)(h:(∀i,a≠.int i)\/(∀j,b≠.int j)):lR s f a b=eE s 8:=by
 cases a<;>cases b<;>first|rfl|(rcases h with h|h<;>exact absurd rfl (h _))
theorem Dd(x:Int):AY x=wrap64 x:=by unfold AY wrap64;rfl
theorem oY(x:Int): -9223372036854775808<=AY x/\AY x<=9223372036854775807:=by unfold AY;omega
theorem xQ{w:aa}{a:List V}(h:eV w mo a xs)(d:a.length=2):∃b c x1 x2,a=[b,c]/\xs=[x1,x2]/\VX w mo b x1/\VX w mo c x2:=by
 match a,xs,h,d with
 |[b,c],[x1,x2],h,_=>exact⟨b,c,x1,x2,rfl,rfl,h.1,h.2.1⟩
 |[b,c],[],h,_=>exact h.elim
 |[b,c],[x1],h,_=>exact h.2.elim
 |[b,c],x1::x2::x3::r,h,_=>exact h.2.2.elim
theorem j6{w:aa}{a:List V}(h:eV w mo a xs)(c:a.length=1):∃b x1,a=[b]/\xs=[x1]/\VX w mo b x1:=by
 match a,xs,h,c with
 |[b],[x1],h,_=>exact⟨b,x1,rfl,rfl,h.1⟩
 |[b],[],h,_=>exact h.elim
 |[b],x1::x2::r,h,_=>exact h.2.elim
theorem fO(s:MS)(v:V)(h:du s v≠.bad):∃b r,s.st=b::r/\du s v=.ok {s with val:=some v,pc:=b.nx,fr:=b.fr}:=by
 unfold du at *;cases hs:s.st with
 |nil=>rw[hs] at h;exact absurd rfl h
 |cons b r=>exact⟨b,r,rfl,rfl⟩
theorem kt{w:aa}{X:a9}{b:Nat}{val out:al}{top:a8}(h:RS B K w X ow mo mf M b C s val app args out top gf)(D:w.heap[M]? =some (Obj.cells (eL b s.pc val (aD gf) app args (.pointer top) out 0 0 0 ⟨#[]⟩) 119 (0,0)))(n:Int)(id g mb l F:Nat)(z:ao)(T:bi)(hT:MT.contains T=false)(a:List V)(h1:s.app=some (.proc id,a))(J:app=.iface 216 (Pt g))(hg:w.heap[g]? =some (Obj.cells #[.string z,Jn (2:Nat),.func (.func 211) #[] #[aD mb,aD l]] 220 (0,0)))(O:qz w mb 73 (aD M))(L:qz w l T (.func (.func F) #[aD M] #[]))(ha:a.length=2)(q:Nat)(f:Int->Int->V)(hf:∀u v,bV C {s with app:=none} q [u,v]=lR {s with app:=none} f u v)(t:bi)(y:Int->Int->al)(hy:∀w mo i j,VX w mo (f i j) (.iface t (y i j)))(h4:∀(E gf A k d:Nat) (n pc:Int) (old v2:al) (i j:Int),cP w.drew.drew M E gf n pc old v2->Cl w.drew.drew mb 0 (aD M)->Cl w.drew.drew l 0 (.func (.func F) #[aD M] #[])->Cl w.drew.drew A k (.iface 130 (Jn i))->Cl w.drew.drew A (k+1) (.iface 130 (Jn j))->cl 211 #[.slice (some (dq A k)) 2 d,aD mb,aD l] w.drew.drew (bD .nilIface (cO w.drew.drew.drew M gf n (.iface t (y i j)))))(H:bV C {s with app:=none} q a≠.bad):
  cl 128 #[Pt M,Jn n] w (aV B K X ow w M b C (bV C {s with app:=none} q a)):=by
 obtain⟨k0,k1,k2,k3,P,W,k6,k7,k8,k9,k10,k11⟩:=bq D;have hA:=h.app;rw[h1] at hA;obtain⟨hp,xs,h8,h7⟩:=hA;rw[J] at P;have R:=kd hg 0 (.string z);have S:=kd hg 1 (Jn (2:Nat));have U:=kd hg 2 (.func (.func 211) #[] #[aD mb,aD l]);have m0:=kd O 0 (aD M);have f0:=kd L 0 (.func (.func F) #[aD M] #[]);have nmb:mb≠M:=aU O D (by decide);have nfb:l≠M:=aU L D (λe=>by subst e;exact absurd hT (by decide));have h2:=h.drew.drew;have h3:=h2.drew;obtain⟨Y,I,x1,x2,rfl,rfl,p,m⟩:=xQ h8 ha;obtain⟨A,k,d,c,rfl,h9,c0,c1⟩:=CS h7;rw[hf] at H ⊢;by_cases hi:∃i,Y=.int i
 .obtain⟨i,rfl⟩:=hi;obtain⟨rfl,_⟩:=p;by_cases N:∃j,I=.int j
  .obtain⟨j,rfl⟩:=N;obtain⟨rfl,_⟩:=m;obtain⟨Q,r,hs,h6⟩:=fO _ _ H;obtain⟨E,gf0,h5,hG⟩:=h2.jO D Q r hs;refine(pK w M g 2 d mb l 0 0 n z _ (λw'=>w'=cO w.drew.drew.drew M gf0 Q.nx (.iface t (y i j))) P W R S U (ag ((h4 E gf0 A k d Q.nx s.pc _ _ i j hG m0 f0 c0 c1).mono λe w' hh=>hh))).mono ?_;rintro e w' ⟨rfl,rfl⟩;obtain⟨X',ow',h0,Z⟩:=h3.given D Q r hs gf0 h5 (f i j) t (y i j) (hy _ _ _ _);show aV B K X ow w M b C (du _ _) _ _;rw[h6];exact⟨rfl,X',ow',h0,(Gw.drew.trans (Gw.drew.trans Gw.drew)).trans Z⟩
  .have o:∀j,I≠.int j:=λj e=>N ⟨j,e⟩;have he:lR {s with app:=none} f (.int i) I=eE {s with app:=none} 8:=uB _ _ _ _ (.inr o);rw[he] at H ⊢;obtain⟨t2,y2,rfl⟩:=m.form;refine(gh w M g 2 d mb l n 8 z _ P W R S U (ag (wh w.drew.drew mb l A k d _ _ _ _ c0 c1 i (l6 i) (DU m o)))).mono ?_;rintro e w' ⟨rfl,rfl⟩;exact d8 h D 8 z _ ⟨2,rfl⟩ H
 .have G:∀j,Y≠.int j:=λj e=>hi ⟨j,e⟩;have he:lR {s with app:=none} f Y I=eE {s with app:=none} 8:=uB _ _ _ _ (.inl G);rw[he] at H ⊢;obtain⟨t1,y1,rfl⟩:=p.form;by_cases N:∃j,I=.int j
  .obtain⟨j,rfl⟩:=N;obtain⟨rfl,_⟩:=m;refine(gh w M g 2 d mb l n 8 z _ P W R S U (ag (mN w.drew.drew mb l A k d _ _ _ _ .nilIface .nilIface true c0 c1 rfl (DU p G) j (l6 j)))).mono ?_;rintro e w' ⟨rfl,rfl⟩;exact d8 h D 8 z _ ⟨2,rfl⟩ H
  .have o:∀j,I≠.int j:=λj e=>N ⟨j,e⟩;obtain⟨t2,y2,rfl⟩:=m.form;refine(gh w M g 2 d mb l n 8 z _ P W R S U (ag (mN w.drew.drew mb l A k d _ _ _ _ .nilIface .nilIface false c0 c1 rfl (DU p G) 0 (DU m o)))).mono ?_;rintro e w' ⟨rfl,rfl⟩;exact d8 h D 8 z _ ⟨2,rfl⟩ H
theorem Lh{w:aa}{X:a9}{b:Nat}{val out:al}{top:a8}(h:RS B K w X ow mo mf M b C s val app args out top gf)(k:w.heap[M]? =some (.cells (eL b s.pc val (aD gf) app args (.pointer top) out 0 0 0 ⟨#[]⟩) 119))(n:Int)(id g mb f:Nat)(z:ao)(T:bi)(hT:MT.contains T=false)(a:List V)(J:s.app=some (.proc id,a))(l:app=.iface 216 (Pt g))(O:w.heap[g]? =some (.cells #[.string z,Jn (1:Nat),.func (.func 214) #[] #[aD mb,aD f]] 220))(A:qz w mb 73 (aD M))(m:qz w f T (.func (.func 168) #[aD M] #[]))(ha:a.length=1)(Q:bV C {s with app:=none} 6 a≠.bad):
  cl 128 #[Pt M,Jn n] w (aV B K X ow w M b C (bV C {s with app:=none} 6 a)):=by
 obtain⟨k0,k1,k2,k3,U,k5,k6,k7,k8,k9,k10,k11⟩:=bq k;have hA:=h.app;rw[J] at hA;obtain⟨hp,xs,S,R⟩:=hA;rw[l] at U;have W:=kd O 0 (.string z);have Y:=kd O 1 (Jn (1:Nat));have Z:=kd O 2 (.func (.func 214) #[] #[aD mb,aD f]);have m0:=kd A 0 (aD M);have f0:=kd m 0 (.func (.func 168) #[aD M] #[]);have nmb:mb≠M:=aU A k (by decide);have nfb:f≠M:=aU m k (λe=>by subst e;exact absurd hT (by decide));have h2:=h.drew.drew;have h3:=h2.drew;obtain⟨F,x1,rfl,rfl,j⟩:=j6 S ha;obtain⟨gv,D,d,c,rfl,h1,c0⟩:=kT R;by_cases hi:∃i p q,F=.pair i p q
 .obtain⟨i,p,q,rfl⟩:=hi;obtain⟨gp,u,v,h0,rfl,L,hu,hv⟩:=j;obtain⟨t,y,rfl⟩:=hu.form;obtain⟨G,r,hs,P⟩:=fO _ _ Q;obtain⟨E,gf0,N,hG⟩:=h2.jO k G r hs;refine(j8 w M g 1 d mb f 0 0 n z _ (λw'=>w'=cO w.drew.drew.drew M gf0 G.nx (.iface t y)) U k5 W Y Z (ag ((OC w.drew.drew M E gf0 mb f gv D d gp G.nx s.pc _ _ t y hG m0 f0 c0 (show w.cell? _=_ by rw[ae L];rfl)).mono λe w' hh=>hh))).mono ?_;rintro e w' ⟨rfl,rfl⟩;obtain⟨X',ow',I,H⟩:=h3.given k G r hs gf0 N p _ _ (VX.ak (show aC _ w w.drew.drew.drew from λ_ _ hx=>hx) (TV _) _ _ hu);show aV B K X ow w M b C (du _ _) _ _;rw[P];exact⟨rfl,X',ow',I,(Gw.drew.trans (Gw.drew.trans Gw.drew)).trans H⟩
 .have o:∀i p q,F≠.pair i p q:=λi p q e=>hi ⟨i,p,q,e⟩;have he:bV C {s with app:=none} 6 [F]=eE {s with app:=none} 8:=by
   cases F<;>first|rfl|exact absurd rfl (o _ _ _)
  rw[he] at Q ⊢;obtain⟨t1,y1,rfl⟩:=j.form;refine(jf w M g 1 d mb f n 8 z _ U k5 W Y Z (ag (pg w.drew.drew mb f gv D d _ _ c0 (r7 j o)))).mono ?_;rintro e w' ⟨rfl,rfl⟩;exact d8 h k 8 z _ ⟨2,rfl⟩ Q
theorem Li{w:aa}{X:a9}{b:Nat}{val out:al}{top:a8}(h:RS B K w X ow mo mf M b C s val app args out top gf)(k:w.heap[M]? =some (.cells (eL b s.pc val (aD gf) app args (.pointer top) out 0 0 0 ⟨#[]⟩) 119))(n:Int)(id g mb f:Nat)(z:ao)(T:bi)(hT:MT.contains T=false)(a:List V)(J:s.app=some (.proc id,a))(l:app=.iface 216 (Pt g))(O:w.heap[g]? =some (.cells #[.string z,Jn (1:Nat),.func (.func 214) #[] #[aD mb,aD f]] 220))(A:qz w mb 73 (aD M))(m:qz w f T (.func (.func 169) #[aD M] #[]))(ha:a.length=1)(Q:bV C {s with app:=none} 7 a≠.bad):
  cl 128 #[Pt M,Jn n] w (aV B K X ow w M b C (bV C {s with app:=none} 7 a)):=by
 obtain⟨k0,k1,k2,k3,U,k5,k6,k7,k8,k9,k10,k11⟩:=bq k;have hA:=h.app;rw[J] at hA;obtain⟨hp,xs,S,R⟩:=hA;rw[l] at U;have W:=kd O 0 (.string z);have Y:=kd O 1 (Jn (1:Nat));have Z:=kd O 2 (.func (.func 214) #[] #[aD mb,aD f]);have m0:=kd A 0 (aD M);have f0:=kd m 0 (.func (.func 169) #[aD M] #[]);have nmb:mb≠M:=aU A k (by decide);have nfb:f≠M:=aU m k (λe=>by subst e;exact absurd hT (by decide));have h2:=h.drew.drew;have h3:=h2.drew;obtain⟨F,x1,rfl,rfl,j⟩:=j6 S ha;obtain⟨gv,D,d,c,rfl,h1,c0⟩:=kT R;by_cases hi:∃i p q,F=.pair i p q
 .obtain⟨i,p,q,rfl⟩:=hi;obtain⟨gp,u,v,h0,rfl,L,hu,hv⟩:=j;obtain⟨t,y,rfl⟩:=hv.form;obtain⟨G,r,hs,P⟩:=fO _ _ Q;obtain⟨E,gf0,N,hG⟩:=h2.jO k G r hs;refine(j8 w M g 1 d mb f 0 0 n z _ (λw'=>w'=cO w.drew.drew.drew M gf0 G.nx (.iface t y)) U k5 W Y Z (ag ((OD w.drew.drew M E gf0 mb f gv D d gp G.nx s.pc _ _ t y hG m0 f0 c0 (show w.cell? _=_ by rw[ae L];rfl)).mono λe w' hh=>hh))).mono ?_;rintro e w' ⟨rfl,rfl⟩;obtain⟨X',ow',I,H⟩:=h3.given k G r hs gf0 N q _ _ (VX.ak (show aC _ w w.drew.drew.drew from λ_ _ hx=>hx) (TV _) _ _ hv);show aV B K X ow w M b C (du _ _) _ _;rw[P];exact⟨rfl,X',ow',I,(Gw.drew.trans (Gw.drew.trans Gw.drew)).trans H⟩
 .have o:∀i p q,F≠.pair i p q:=λi p q e=>hi ⟨i,p,q,e⟩;have he:bV C {s with app:=none} 7 [F]=eE {s with app:=none} 8:=by
   cases F<;>first|rfl|exact absurd rfl (o _ _ _)
  rw[he] at Q ⊢;obtain⟨t1,y1,rfl⟩:=j.form;refine(jf w M g 1 d mb f n 8 z _ U k5 W Y Z (ag (pg w.drew.drew mb f gv D d _ _ c0 (r7 j o)))).mono ?_;rintro e w' ⟨rfl,rfl⟩;exact d8 h k 8 z _ ⟨2,rfl⟩ Q
theorem yi{w:aa}{X:a9}{b:Nat}{val out:al}{top:a8}(h:RS B K w X ow mo mf M b C s val app args out top gf)(f:w.heap[M]? =some (.cells (eL b s.pc val (aD gf) app args (.pointer top) out 0 0 0 ⟨#[]⟩) 119))(n:Int)(id g mb d:Nat)(z:ao)(T:bi)(Y:MT.contains T=false)(a:List V)(v:s.app=some (.proc id,a))(j:app=.iface 216 (Pt g))(D:w.heap[g]? =some (.cells #[.string z,Jn (1:Nat),.func (.func 215) #[] #[aD mb,aD d]] 220))(l:qz w mb 73 (aD M))(k:qz w d T (.func (.func 171) #[aD M] #[]))(Z:a.length=1)(hn:bV C {s with app:=none} 8 a≠.bad):
  cl 128 #[Pt M,Jn n] w (aV B K X ow w M b C (bV C {s with app:=none} 8 a)):=by
 obtain⟨k0,k1,k2,k3,Q,k5,k6,k7,k8,k9,k10,k11⟩:=bq f;have O:=h.app;rw[v] at O;obtain⟨hp,xs,I,H⟩:=O;rw[j] at Q;have R:=kd D 0 (.string z);have S:=kd D 1 (Jn (1:Nat));have U:=kd D 2 (.func (.func 215) #[] #[aD mb,aD d]);have m0:=kd l 0 (aD M);have f0:=kd k 0 (.func (.func 171) #[aD M] #[]);have nmb:mb≠M:=aU l f (by decide);have nfb:d≠M:=aU k f (λe=>by subst e;exact absurd Y (by decide));have h2:=h.drew.drew;have h3:=h2.drew;obtain⟨L,x1,rfl,rfl,m⟩:=j6 I Z;obtain⟨N,J,i,c,rfl,G,c0⟩:=kT H;have ngv:N≠M:=aU G f (by decide);obtain⟨t,y,rfl⟩:=m.form;obtain⟨o,r,P,F⟩:=fO _ _ hn;obtain⟨E,gf0,A,W⟩:=h2.jO f o r P;refine(iq w M g 1 i mb d 0 0 n z _ (λw'=>w'=cO w.drew.drew.drew M gf0 o.nx (.iface 131 (.bool (cj L .empty)))) Q k5 R S U (ag ((BJ w.drew.drew M E gf0 mb d N J i o.nx s.pc _ _ t y _ W m0 f0 nmb nfb ngv c0 (EQ m)).mono λe w' hh=>hh))).mono ?_;rintro e w' ⟨rfl,rfl⟩;obtain⟨X',ow',q,p⟩:=h3.given f o r P gf0 A (.bool (cj L .empty)) _ _ rfl;show aV B K X ow w M b C (du _ _) _ _;rw[F];exact⟨rfl,X',ow',q,(Gw.drew.trans (Gw.drew.trans Gw.drew)).trans p⟩
theorem Ll{w:aa}{X:a9}{b:Nat}{val out:al}{top:a8}(h:RS B K w X ow mo mf M b C s val app args out top gf)(f:w.heap[M]? =some (.cells (eL b s.pc val (aD gf) app args (.pointer top) out 0 0 0 ⟨#[]⟩) 119))(n:Int)(id g mb d:Nat)(z:ao)(T:bi)(Y:MT.contains T=false)(a:List V)(v:s.app=some (.proc id,a))(j:app=.iface 216 (Pt g))(D:w.heap[g]? =some (.cells #[.string z,Jn (1:Nat),.func (.func 215) #[] #[aD mb,aD d]] 220))(l:qz w mb 73 (aD M))(k:qz w d T (.func (.func 173) #[aD M] #[]))(Z:a.length=1)(hn:bV C {s with app:=none} 10 a≠.bad):
  cl 128 #[Pt M,Jn n] w (aV B K X ow w M b C (bV C {s with app:=none} 10 a)):=by
 obtain⟨k0,k1,k2,k3,Q,k5,k6,k7,k8,k9,k10,k11⟩:=bq f;have O:=h.app;rw[v] at O;obtain⟨hp,xs,I,H⟩:=O;rw[j] at Q;have R:=kd D 0 (.string z);have S:=kd D 1 (Jn (1:Nat));have U:=kd D 2 (.func (.func 215) #[] #[aD mb,aD d]);have m0:=kd l 0 (aD M);have f0:=kd k 0 (.func (.func 173) #[aD M] #[]);have nmb:mb≠M:=aU l f (by decide);have nfb:d≠M:=aU k f (λe=>by subst e;exact absurd Y (by decide));have h2:=h.drew.drew;have h3:=h2.drew;obtain⟨L,x1,rfl,rfl,m⟩:=j6 I Z;obtain⟨N,J,i,c,rfl,G,c0⟩:=kT H;have ngv:N≠M:=aU G f (by decide);obtain⟨t,y,rfl⟩:=m.form;obtain⟨o,r,P,F⟩:=fO _ _ hn;obtain⟨E,gf0,A,W⟩:=h2.jO f o r P;refine(iq w M g 1 i mb d 0 0 n z _ (λw'=>w'=cO w.drew.drew.drew M gf0 o.nx (.iface 131 (.bool (cj L (.bool false))))) Q k5 R S U (ag ((OE w.drew.drew M E gf0 mb d N J i o.nx s.pc _ _ t y _ W m0 f0 nmb nfb ngv c0 (ul m)).mono λe w' hh=>hh))).mono ?_;rintro e w' ⟨rfl,rfl⟩;obtain⟨X',ow',q,p⟩:=h3.given f o r P gf0 A (.bool (cj L (.bool false))) _ _ rfl;show aV B K X ow w M b C (du _ _) _ _;rw[F];exact⟨rfl,X',ow',q,(Gw.drew.trans (Gw.drew.trans Gw.drew)).trans p⟩
theorem Bf{w:aa}{X:a9}{b:Nat}{val out:al}{top:a8}(h:RS B K w X ow mo mf M b C s val app args out top gf)(j:w.heap[M]? =some (.cells (eL b s.pc val (aD gf) app args (.pointer top) out 0 0 0 ⟨#[]⟩) 119))(n:Int)(id g mb f:Nat)(z:ao)(T:bi)(hT:MT.contains T=false)(a:List V)(I:s.app=some (.proc id,a))(l:app=.iface 216 (Pt g))(N:w.heap[g]? =some (.cells #[.string z,Jn (1:Nat),.func (.func 215) #[] #[aD mb,aD f]] 220))(A:qz w mb 73 (aD M))(m:qz w f T (.func (.func 172) #[aD M] #[]))(ha:a.length=1)(Z:bV C {s with app:=none} 9 a≠.bad):
  cl 128 #[Pt M,Jn n] w (aV B K X ow w M b C (bV C {s with app:=none} 9 a)):=by
 obtain⟨k0,k1,k2,k3,k4,k5,k6,k7,k8,k9,k10,k11⟩:=bq j;have Y:=h.app;rw[I] at Y;obtain⟨hp,xs,R,Q⟩:=Y;rw[l] at k4;have g0:=kd N 0 (.string z);have g1:=kd N 1 (Jn (1:Nat));have g2:=kd N 2 (.func (.func 215) #[] #[aD mb,aD f]);have m0:=kd A 0 (aD M);have f0:=kd m 0 (.func (.func 172) #[aD M] #[]);have nmb:mb≠M:=aU A j (by decide);have nfb:f≠M:=aU m j (λe=>by subst e;exact absurd hT (by decide));have h2:=h.drew.drew;have h3:=h2.drew;obtain⟨D,x1,rfl,rfl,d⟩:=j6 R ha;obtain⟨U,S,k,c,rfl,P,c0⟩:=kT Q;have ngv:U≠M:=aU P j (by decide);obtain⟨t,y,rfl⟩:=d.form;obtain⟨rb,pv,hq,L⟩:∃rb pv,(∀W,(Instr.typeAssert (.iface t y) 81 136 true).run prog W=.ok (.tuple #[pv,.bool rb]) W)/\bV C {s with app:=none} 9 [D]=du {s with app:=none} (.bool rb):=by
  by_cases hi:∃i p q,D=.pair i p q
  .obtain⟨i,p,q,rfl⟩:=hi;obtain⟨gp,u,v,h1,e,h0,hu,hv⟩:=d;cases e;exact⟨true,_,λW=>wY _ W,rfl⟩
  .have o:∀i p q,D≠.pair i p q:=λi p q e=>hi ⟨i,p,q,e⟩;exact⟨false,_,λW=>r7 d o W,by cases D<;>first|rfl|exact absurd rfl (o _ _ _)⟩
 rw[L] at Z ⊢;obtain⟨F,r,hs,O⟩:=fO _ _ Z;obtain⟨E,gf0,J,hG⟩:=h2.jO j F r hs;refine(iq w M g 1 k mb f 0 0 n z _ (λw'=>w'=cO w.drew.drew.drew M gf0 F.nx (.iface 131 (.bool rb))) k4 k5 g0 g1 g2 (ag ((EN w.drew.drew M E gf0 mb f U S k F.nx s.pc _ _ t y _ _ hG m0 f0 nmb nfb ngv c0 hq).mono λe w' hh=>hh))).mono ?_;rintro e w' ⟨rfl,rfl⟩;obtain⟨X',ow',H,G⟩:=h3.given j F r hs gf0 J (.bool rb) _ _ rfl;rw[O];exact⟨rfl,X',ow',H,(Gw.drew.trans (Gw.drew.trans Gw.drew)).trans G⟩
theorem G2{w:aa}{X:a9}{b:Nat}{val out:al}{top:a8}(h:RS B K w X ow mo mf M b C s val app args out top gf)(f:w.heap[M]? =some (.cells (eL b s.pc val (aD gf) app args (.pointer top) out 0 0 0 ⟨#[]⟩) 119))(n:Int)(id g mb d:Nat)(z:ao)(T:bi)(hT:MT.contains T=false)(a:List V)(G:s.app=some (.proc id,a))(j:app=.iface 216 (Pt g))(I:w.heap[g]? =some (.cells #[.string z,Jn (2:Nat),.func (.func 213) #[] #[aD mb,aD d]] 220))(m:qz w mb 73 (aD M))(k:qz w d T (.func (.func 174) #[aD M] #[]))(ha:a.length=2)(hn:bV C {s with app:=none} 11 a≠.bad):
  cl 128 #[Pt M,Jn n] w (aV B K X ow w M b C (bV C {s with app:=none} 11 a)):=by
 obtain⟨k0,k1,k2,k3,U,k5,k6,k7,k8,k9,k10,k11⟩:=bq f;have R:=h.app;rw[G] at R;obtain⟨hp,xs,O,N⟩:=R;rw[j] at U;have W:=kd I 0 (.string z);have Y:=kd I 1 (Jn (2:Nat));have Z:=kd I 2 (.func (.func 213) #[] #[aD mb,aD d]);have m0:=kd m 0 (aD M);have f0:=kd k 0 (.func (.func 174) #[aD M] #[]);have nmb:mb≠M:=aU m f (by decide);have nfb:d≠M:=aU k f (λe=>by subst e;exact absurd hT (by decide));have h2:=h.drew.drew;have h3:=h2.drew;obtain⟨v,A,x1,x2,rfl,rfl,o,p⟩:=xQ O ha;obtain⟨Q,P,i,c,rfl,L,c0,c1⟩:=CS N;have ngv:Q≠M:=aU L f (by decide);obtain⟨t,y,rfl⟩:=o.form;obtain⟨t2,y2,rfl⟩:=p.form;obtain⟨q,r,S,J⟩:=fO _ _ hn;obtain⟨E,gf0,H,hG⟩:=h2.jO f q r S;have l:aC 205 w w.drew.drew.drew:=λ_ _ hx=>hx;refine(kw w M g 2 i mb d 0 0 n z _ (λw'=>w'=cO w.drew.drew.drew M gf0 q.nx (.iface 131 (.bool (cj v A)))) U k5 W Y Z (ag ((Ic w.drew.drew M E gf0 mb d Q P i q.nx s.pc _ _ t t2 y y2 _ hG m0 f0 nmb nfb ngv c0 c1 (P7 h3.inj h3.mcl v A _ _ (VX.ak l (TV _) _ _ o) (VX.ak l (TV _) _ _ p))).mono λe w' hh=>hh))).mono ?_;rintro e w' ⟨rfl,rfl⟩;obtain⟨X',ow',F,D⟩:=h3.given f q r S gf0 H (.bool (cj v A)) _ _ rfl;show aV B K X ow w M b C (du _ _) _ _;rw[J];exact⟨rfl,X',ow',F,(Gw.drew.trans (Gw.drew.trans Gw.drew)).trans D⟩
theorem G0{w:aa}{X:a9}{b:Nat}{val out:al}{top:a8}(h:RS B K w X ow mo mf M b C s val app args out top gf)(j:w.heap[M]? =some (.cells (eL b s.pc val (aD gf) app args (.pointer top) out 0 0 0 ⟨#[]⟩) 119))(n:Int)(id g mb v:Nat)(z:ao)(T:bi)(hT:MT.contains T=false)(a:List V)(R:s.app=some (.proc id,a))(A:app=.iface 216 (Pt g))(U:w.heap[g]? =some (.cells #[.string z,Jn (2:Nat),.func (.func 213) #[] #[aD mb,aD v]] 220))(m:qz w mb 73 (aD M))(l:qz w v T (.func (.func 166) #[aD M] #[]))(ha:a.length=2)(hn:bV C {s with app:=none} 5 a≠.bad):
  cl 128 #[Pt M,Jn n] w (aV B K X ow w M b C (bV C {s with app:=none} 5 a)):=by
 obtain⟨k0,k1,k2,k3,k4,k5,k6,k7,k8,k9,k10,k11⟩:=bq j;have hA:=h.app;rw[R] at hA;obtain⟨hp,xs,h0,Z⟩:=hA;rw[A] at k4;have g0:=kd U 0 (.string z);have g1:=kd U 1 (Jn (2:Nat));have g2:=kd U 2 (.func (.func 213) #[] #[aD mb,aD v]);have m0:=kd m 0 (aD M);have f0:=kd l 0 (.func (.func 166) #[aD M] #[]);have nmb:mb≠M:=aU m j (by decide);have nfb:v≠M:=aU l j (λe=>by subst e;exact absurd hT (by decide));have h2:=h.drew.drew;have h3:=h2.drew;obtain⟨a1,a2,x1,x2,rfl,rfl,H,I⟩:=xQ h0 ha;obtain⟨N,J,k,c,rfl,D,c0,c1⟩:=CS Z;have ngv:N≠M:=aU D j (by decide);obtain⟨t,y,rfl⟩:=H.form;obtain⟨o,q,rfl⟩:=I.form;obtain⟨L,r,hs,W⟩:=fO _ _ hn;obtain⟨E,gf0,S,hG⟩:=h2.jO j L r hs;refine(kw w M g 2 k mb v 0 0 n z _ (λw'=>w'=cO (w.drew.drew.drew.alloc (.cells #[.iface t y,.iface o q] 205)) M gf0 L.nx (.iface 136 (Pt w.heap.size))) k4 k5 g0 g1 g2 (ag ((LH w.drew.drew M E gf0 mb v N J k L.nx s.pc _ _ t o y q hG m0 f0 nmb nfb ngv (ai m) (ai l) (ai D) c0 c1).mono λe w' hh=>hh))).mono ?_;rintro e w' ⟨rfl,rfl⟩;have f:Below w.heap.size w (w.drew.drew.drew.alloc (.cells #[.iface t y,.iface o q] 205)):=((((fL _ w).drew).drew).drew).alloc (ew _) _;have P:(w.drew.drew.drew.alloc (.cells #[.iface t y,.iface o q] 205)).heap[M]? =some (Obj.cells (eL b s.pc val (aD gf) app (.slice (some (dq N J)) 2 k) (.pointer top) out 0 0 0 ⟨#[]⟩) 119 (0,0)):=by rw[f.block M (ai j)];exact j
 have d:(w.drew.drew.drew.alloc (.cells #[.iface t y,.iface o q] 205)).heap[w.heap.size]? =some (.cells #[.iface t y,.iface o q] 205):=by
  rw[aQ,fN (show w.heap.size=w.drew.drew.drew.heap.size from rfl)]
 have h4:=(h.below j f).obj w.heap.size (ai d) (λi hi=>by have:=h.mlt i _ hi;omega) ⟨_,_,d,by decide⟩ none (λp hp=>by cases hp);have F:aC 205 w (w.drew.drew.drew.alloc (.cells #[.iface t y,.iface o q] 205)):=TX f;have Y:mo (2 *s.obs.length)=none:=by
  cases e:mo (2 *s.obs.length) with
  |none=>rfl
  |some g'=>exact absurd (h.mdm _ _ e) (by omega)
 have G:=fS mo (2 *s.obs.length) w.heap.size Y;obtain⟨X',ow',Q,O⟩:=h4.given P L r hs gf0 S (.pair (2 *s.obs.length) a1 a2) _ _ ⟨w.heap.size,_,_,ey _ _ _,rfl,d,VX.ak F G _ _ H,VX.ak F G _ _ I⟩;show aV B K X ow w M b C (du _ _) _ _;rw[W];exact⟨rfl,X',ow',Q,Gw.trans ⟨TW _ f,λ_ _ h _=>h,λ_ _ h=>h,λ_ _ h=>h⟩ O⟩
theorem RS.Pb{w:aa}{X:a9}{b:Nat}{val out:al}{top:a8}(h:RS B K w X ow mo mf M b C s val app args out top gf)(l:s.app=none)(d:Option Nat)(i:Nat)(f:∀k,d=some k->ow k=some 0/\∃c,w.heap[k]? =some (Obj.cells c 81 (0,0)))(p:∃c,w.heap[M]? =some (Obj.cells c 119 (0,0))):
  RS B K w X (λk=>if d=some k then some (i+1) else ow k) mo mf M b C s val app args out top gf:=by
 obtain⟨z,o⟩:=p;have m:∀k c T,T≠81->w.heap[k]? =some (Obj.cells c T (0,0))->¬d=some k:=λk c T A E e=>by
  obtain⟨J,q⟩:=(f k e).2;exact aU E q A rfl
 refine⟨h.code,h.val,h.fr,by rw[l];trivial,h.st,h.out.ak (λb c hb r=>⟨?_,r⟩),λj fr D=> ?_,h.obs,h.mlt,h.mdm,h.mcl,h.inj,h.mcd,h.fdm,λk t n=> ?_,h.xty,?_,h.tab,h.hB⟩
 .show(if d=some b then _ else ow b)=_;rw[fb (m b c _ (by decide) r)];exact hb
 .obtain⟨g,H,G,I,op,xs,h1,h2⟩:=h.frs j fr D;refine⟨g,H,G,I,op,xs,h1,h2.ak (TY _) (TV _) (TV _) (λb hb v=>⟨?_,rfl⟩) (λb hb F=>⟨F,rfl⟩)⟩;show(if d=some b then _ else ow b)=_;rw[fb (λe=>by have:=(f b e).1;rw[v] at this;cases this)];exact v
 .have n:(if d=some k then some (i+1) else ow k)=some t:=n;by_cases e:d=some k
  .exact h.owx _ _ (f k e).1
  .rw[fb e] at n;exact h.owx _ _ n
 .show(if d=some M then _ else ow M)=_;rw[fb (m M z _ (by decide) o)];exact h.owM
theorem Rw.Rv{w:aa}{own:a9}(h:Rw w T own own u xs):∃b:Option Nat,(∀k,b=some k->own k/\∃c,w.heap[k]? =some (Obj.cells c T (0,0)))/\Rw w T (λk=>b=some k) (λk=>b=some k) u xs:=h.CX
theorem IG(ns:List Nat):rM ns=(ns.map Int.ofNat).map (Value.int .i64):=by
 unfold rM;rw[List.map_map];rfl
theorem Lj{w:aa}{X:a9}{b:Nat}{val out:al}{top:a8}(h:RS B K w X ow mo mf M b C s val app args out top gf)(q:w.heap[M]? =some (.cells (eL b s.pc val (aD gf) app args (.pointer top) out 0 0 0 ⟨#[]⟩) 119))(n:Int)(pid l f g:Nat)(z0:ao)(fv:al)(a:List V)(Hp:Nat)(h8:s.app=some (.proc pid,a))(N:app=.iface 216 (Pt g))(hg:w.heap[g]? =some (.cells #[.string z0,Jn (Hp:Nat),fv] 220))(hf:Pp w X mo mf M C (.clo l f) fv)(ha:a.length=Hp)(nm:au)(ns:List Nat)(p:Nat)(hi:C.ls[l]? =some (nm,ns,p))(h9:Hp=ns.length):
  cl 128 #[Pt M,Jn n] w (aV B K X ow w M b C (.ok {s with app:=none,frs:=s.frs++[⟨ns.map Int.ofNat,a,some f⟩],fr:=s.frs.length,pc:=p})):=by
 obtain⟨k0,k1,k2,k3,k4,k5,k6,k7,k8,k9,k10,k11⟩:=bq q;have hA:=h.app;rw[h8] at hA;obtain⟨hp,xs,h6,Y⟩:=hA;rw[N] at k4;obtain⟨nb,lb,ob,mb,gf0,z,hB,u,ns',e',rfl,G,hz,r,H,F,R,Q,I,hl⟩:=hf;rw[hi] at Q;cases Q;obtain⟨v,ucap,rfl,h1,hn,_⟩:=ay I.1;obtain⟨m,j,rfl,_,_,_,_⟩:=Y.at;have hq:xs.length=Hp:=by rw[<-h6.length];exact ha
 have g0:=kd hg 0 (.string z0);have g1:w.cell? (dq g 1)=some (Jn (xs.length:Nat)):=by rw[ae hg,hq];rfl
 have g2:=kd hg 2 (.func (.func 192) #[] #[aD nb,aD lb,aD ob,aD mb]);have n0:=kd G 0 (.string z);have l1:=kd r 1 (.slice v ns.length ucap);have l2:=kd r 2 (Jn p);have o0:=kd H 0 (aD gf0);have m0:=kd F 0 (aD M);refine(pJ w M g xs.length j nb lb ob mb n z0 m (λw'=>w'=lZ w.drew.drew M gf0 z (.slice v ns.length ns.length) (.slice m xs.length j) p) k4 k5 g0 g1 g2 (ag ((EP w.drew.drew M nb lb ob mb gf0 z ⟨nm.toArray⟩ v ns.length ucap p s.pc .nilIface _ (ai q) k1 k3 (λo=>ah q o) n0 l1 l2 o0 m0 (aU G q (by decide)) (aU r q (by decide)) (aU H q (by decide)) (aU F q (by decide)) (ai F) (ai r) (ai G) (ai H) h1 hn m xs.length j).mono λe w' hh=>hh))).mono ?_;rintro e w' ⟨rfl,rfl⟩;have h2:=(h.drew.drew).sy {s with app:=none} val app (.slice m xs.length j) top gf rfl rfl rfl h.drew.drew.val h.fr trivial h.drew.drew.st;obtain⟨D,E,Z⟩:=Y.Rv;have h3:=h2.Pb rfl D s.frs.length E ⟨_,q⟩;have hy:w.heap.size<=w.heap.size:=ew _;have hu:aB (λk=>k=M) w.drew.drew (lZ w.drew.drew M gf0 z (.slice v ns.length ns.length) (.slice m xs.length j) p):=((((aY _ M 3 _).setCell (dq M 1) _ (λ_=>rfl)).alloc _).drew);have L:(lZ w.drew.drew M gf0 z (.slice v ns.length ns.length) (.slice m xs.length j) p).heap[M]? =some (.cells (eL b p val (aD w.heap.size) app (.slice m xs.length j) (.pointer top) out 0 0 0 ⟨#[]⟩) 119):=(aw (TH (TH (show w.drew.drew.heap[M]? =_ from q)))).trans rfl;have A:(lZ w.drew.drew M gf0 z (.slice v ns.length ns.length) (.slice m xs.length j) p).heap[w.heap.size]? =some (.cells #[.string z,.slice v ns.length ns.length,.slice m xs.length j,Pt gf0] 176):=by
  unfold lZ;rw[dv,aQ,fN (by simp)]
 have hs:∀k,w.heap.size<=k->(if D=some k then some (s.frs.length+1) else ow k)=none:=λk d=>by
  rw[fb (λe=>by obtain⟨c,O⟩:=(E k e).2;have:=ai O;omega)];cases e:ow k with
  |none=>rfl
  |some t=>have:=h.Pn k (h.owx _ _ e);omega
 have h4:=h3.ext' (show w.drew.drew.heap[M]? =_ from q) hu L (X':=λk=>X k\/k=w.heap.size) (ow':=λk=>if k=w.heap.size then some (s.frs.length+1) else if D=some k then some (s.frs.length+1) else ow k) (λk d=>.inl d) (λk d i=>i.elim id (λe=>by have:k<w.heap.size:=d;omega)) (λk d=>fb (by have:k<w.heap.size:=d;omega)) (λk t ht=>by
   have ht:(if k=w.heap.size then some (s.frs.length+1) else if D=some k then some (s.frs.length+1) else ow k)=some t:=ht;by_cases e:k=w.heap.size
   .exact .inr e
   .rw[fb e] at ht;exact .inl (h3.owx _ _ ht)) (λk i d=>by
   rcases i with i|i
   .have:=h.Pn k i;have d:w.heap.size<=k:=d;omega
   .subst i;exact⟨_,_,A,by decide⟩)
 have hd:f<s.frs.length:=h.fdm _ _ R;have hj:mf s.frs.length=none:=by
  cases e:mf s.frs.length with
  |none=>rfl
  |some g'=>exact absurd (h.fdm _ _ e) (by omega)
 have S:=fS mf s.frs.length w.heap.size hj;have kv:∀T,T≠119->aC T w (lZ w.drew.drew M gf0 z (.slice v ns.length ns.length) (.slice m xs.length j) p):=λT hT=>(show aC T w w.drew.drew from λ_ _ i=>i).trans (T8 (show w.drew.drew.heap[M]? =_ from q) hu hT);have h5:=h4.frame w.heap.size ⟨ns.map Int.ofNat,a,some f⟩ z (.slice v ns.length ns.length) (.slice m xs.length j) (eb gf0) xs ⟨fN rfl,A,?_,?_,eV.ak (kv _ (by decide)) (TV _) _ _ h6,⟨hd,gf0,S _ _ R,rfl⟩,by simp[ha,h9],by simpa using hl⟩
 .refine⟨rfl,_,_,⟨_,_,_,_,_,_,_,_,L,h5.sy {s with app:=none,frs:=s.frs++[⟨ns.map Int.ofNat,a,some f⟩],fr:=s.frs.length,pc:=p} val app (.slice m xs.length j) top w.heap.size rfl rfl rfl h5.val (ey _ _ _) trivial h5.st⟩,?_⟩;refine(Gw.drew.trans Gw.drew).trans ⟨hu.mono (λk e=>by subst e;rw[h.owM];simp),λk d i _=>.inl i,λk d i=>i.elim id (λe=>by have:k<w.heap.size:=d;omega),λk d ho=> ?_⟩;show(if k=w.heap.size then some (s.frs.length+1) else if D=some k then some (s.frs.length+1) else ow k)=none;rw[fb (by have:k<w.heap.size:=d;omega),fb (λe=>by have:=(E k e).1;rw[ho] at this;cases this)];exact ho
 ·
  have U:=I.1;obtain⟨hr,W⟩:=U;rcases W with⟨he,h0⟩|⟨gu,cap',cu,he,_,P,hv,h7,hw,J⟩
  .have hm:ns=[]:=R9 h0;subst hm;injection he with hb _ _;subst hb;exact .inl ⟨rfl,rfl⟩
  .cases he;rw[S9] at J;refine .inr ⟨gu,0,ns.length,cu,by simp,by simp,by have:=h7;omega,kv _ (by decide) _ _ P,?_,.inr ⟨?_,by simp⟩⟩
   .rw[RQ,<-IG,show(rM ns).length=ns.length by simp[rM]];exact J
   .rintro(i|i)
    .exact I.2 gu rfl i
    .subst i;exact absurd (ai P) (by omega)
 .exact Z.imp (λk c d O=>⟨by show(if k=w.heap.size then _ else if D=some k then _ else ow k)=_;rw[fN d];split<;>rfl,kv _ (by decide) _ _ O⟩) (λk c d O=>⟨by show(if k=w.heap.size then _ else if D=some k then _ else ow k)=_;rw[fN d];split<;>rfl,kv _ (by decide) _ _ O⟩)
theorem G1{w:aa}{X:a9}{b:Nat}{val out:al}{top:a8}(h:RS B K w X ow mo mf M b C s val app args out top gf)(m:w.heap[M]? =some (.cells (eL b s.pc val (aD gf) app args (.pointer top) out 0 0 0 ⟨#[]⟩) 119))(n:Int)(pid g:Nat)(st:List En)(U:ao)(W:al)(a:List V)(N:s.app=some (.proc pid,a))(A:app=.iface 216 (Pt g))(P:w.heap[g]? =some (.cells #[.string U,Jn (1:Nat),W] 220))(hf:Pp w X mo mf M C (.kont st) W)(v:V)(ha:a=[v])(hn:du {s with app:=none,st:=st} v≠.bad):
  cl 128 #[Pt M,Jn n] w (aV B K X ow w M b C (du {s with app:=none,st:=st} v)):=by
 obtain⟨k0,k1,k2,k3,Z,k5,k6,k7,k8,k9,k10,k11⟩:=bq m;have Y:=h.app;rw[N,ha] at Y;obtain⟨hp,xs,j,R⟩:=Y;rw[A] at Z;obtain⟨tb,mb,top2,rfl,S,D,F⟩:=hf
 match xs,j with
 |[x1],j=>
  obtain⟨p,k,d,c,rfl,Q,c0⟩:=kT R;have ngv:p≠M:=aU Q m (by decide);obtain⟨t,y,rfl⟩:=j.1.form;have g0:=kd P 0 (.string U);have g1:=kd P 1 (Jn (1:Nat));have g2:=kd P 2 (.func (.func 231) #[] #[aD tb,aD mb]);have t0:=kd S 0 (.pointer top2);have m0:=kd D 0 (aD M);cases st with
  |nil=>exact absurd rfl hn
  |cons H r=>
   have G:=F;obtain⟨E,q,gf0,got,rfl,I,O,_,_,_,_⟩:=F;refine(mH w M g 1 d tb mb 0 0 n U _ (λw'=>w'=((((w.drew.drew.setCell (dq M 6) (Pt E)).setCell (dq M 2) (.iface t y)).setCell (dq M 1) (Jn H.nx)).setCell (dq M 3) (Pt gf0)).drew.drew) Z k5 g0 g1 g2 (ag ((CY w.drew.drew M E gf0 tb mb p k 1 d H.nx s.pc t y _ _ _ (aU I m (by decide)) k6 k1 k2 k3 (λo=>ah m o) (by show w.cell? _=_;rw[ae I];rfl) (by show w.cell? _=_;rw[ae I];rfl) t0 m0 (aU D m (by decide)) ngv (by omega) (by omega) c0).mono λe w' hh=>hh))).mono ?_;rintro e w' ⟨rfl,rfl⟩;have f:w.drew.drew.heap[M]? =some (Obj.cells (eL b s.pc val (aD gf) app (.slice (some (dq p k)) 1 d) (.pointer top) out 0 0 0 ⟨#[]⟩) 119 (0,0)):=m;have i:=aY w.drew.drew M 6 (Pt E);have z:(w.drew.drew.setCell (dq M 6) (Pt E)).heap[M]? =some (Obj.cells (eL b s.pc val (aD gf) app (.slice (some (dq p k)) 1 d) (Pt E) out 0 0 0 ⟨#[]⟩) 119 (0,0)):=(TH f).trans rfl;have h2:=h.drew.drew.ext f i z;have h3:=(h2.sy {s with app:=none,st:=H::r} val app (.slice (some (dq p k)) 1 d) (eb E) gf rfl rfl rfl h2.val h2.fr trivial ((Ba.ak (show aC _ w w.drew.drew from λ_ _ l=>l) (λ_ _ l=>l) (λ_ _ l=>l) (TV _) (TV _) G).cG f i)).drew;obtain⟨X',ow',L,J⟩:=h3.given z H r rfl gf0 O v t y (VX.ak ((show aC _ w w.drew.drew from λ_ _ l=>l).trans (T8 f i.drew (by decide))) (TV _) _ _ j.1);exact⟨rfl,X',ow',L,(((Gw.drew.trans Gw.drew).trans (h.drew.drew.gw i)).trans Gw.drew).trans J⟩
theorem Be{w:aa}{X:a9}{b:Nat}{val out:al}{top:a8}(h:RS B K w X ow mo mf M b C s val app args out top gf)(r:w.heap[M]? =some (.cells (eL b s.pc val (aD gf) app args (.pointer top) out 0 0 0 ⟨#[]⟩) 119))(n:Int)(pid g:Nat)(S:ao)(a:List V)(I:s.app=some (.proc pid,a))(A:app=.iface 216 (Pt g))(J:w.heap[g]? =some (.cells #[.string S,Jn (1:Nat),.func (.func 176) #[aD M] #[]] 220))(ha:a.length=1)(N:0<s.pc/\s.pc<10000000):
  cl 128 #[Pt M,Jn n] w (aV B K X ow w M b C (bV C {s with app:=none} 13 a)):=by
 obtain⟨k0,k1,k2,k3,R,W,k6,k7,k8,k9,k10,k11⟩:=bq r;have U:=h.app;rw[I] at U;obtain⟨hp,xs,Q,O⟩:=U;rw[A] at R;obtain⟨Y,x1,rfl,rfl,E⟩:=j6 Q ha;obtain⟨H,F,q,c,rfl,D,c0⟩:=kT O;have ngv:H≠M:=aU D r (by decide);obtain⟨t,y,rfl⟩:=E.form;have g0:=kd J 0 (.string S);have g1:=kd J 1 (Jn (1:Nat));have g2:=kd J 2 (.func (.func 176) #[aD M] #[]);refine(pI w M g 1 q 0 0 0 0 n S _ (λw'=>w'=Ox (tO w.drew.drew.drew M top) M t y (w.heap.size+2) (s.pc-1)) R W g0 g1 g2 (ag ((Bq w.drew.drew M H F q t y _ _ s.pc top (ai r) N k1 R W k6 (λo=>ah r o) ngv (ai D) c0).mono λe w' hh=>hh))).mono ?_;rintro e w' ⟨rfl,rfl⟩;have j:Below w.heap.size w (tO w.drew.drew.drew M top):=((((fL _ w).drew).drew).drew).trans (sL w.drew.drew.drew M top);obtain⟨w1,d⟩:∃w1,w1=tO w.drew.drew.drew M top:=⟨_,rfl⟩;have Z:w1.heap[w.heap.size]? =some (.cells #[Pt M] 73):=by
  rw[d];unfold tO;simp only[aQ];rw[fb (by simp;omega),fb (by simp),fN (show w.heap.size=w.drew.drew.drew.heap.size from rfl)]
 have e1:w1.heap[w.heap.size+1]? =some (.cells #[.pointer top] 111):=by
  rw[d];unfold tO;simp only[aQ];rw[fb (by simp),fN (by simp)]
 have e2:w1.heap[w.heap.size+2]? =some (.cells #[.string ⟨#[119,104,97,116,32,99,97,108,108,47,99,99,32,103,97,118,101]⟩,Jn 1,.func (.func 231) #[] #[Pt (w.heap.size+1),Pt w.heap.size]] 220):=by
  rw[d];unfold tO;simp only[aQ];rw[fN (by simp)];rfl
 rw[<-d] at j;rw[<-d];have h4:w1.heap.size=w.heap.size+3:=by rw[d];unfold tO;simp
 clear d;have h1:=h.below r j;have f:w1.heap[M]? =some (Obj.cells (eL b s.pc val (aD gf) app (.slice (some (dq H F)) 1 q) (.pointer top) out 0 0 0 ⟨#[]⟩) 119 (0,0)):=by rw[j.block M (ai r)];exact r
 have h2:=h1.obj (w.heap.size+2) (ai e2) (λi hi=>by have:=h.mlt i _ hi;omega) ⟨_,_,e2,by decide⟩ (some (.kont s.st)) (λp hp=>by
  cases hp;exact⟨w.heap.size+2,_,_,ey _ _ _,e2,w.heap.size+1,w.heap.size,top,rfl,e1,Z,(Ba.ak (TY _) (TY _) (TY _) (fS _ _ _ (by
   cases e:mo (2 *s.obs.length) with
   |none=>rfl
   |some g'=>exact absurd (h.mdm _ _ e) (by omega))) (TV _) h1.st)⟩)
 have h0:=ai f;have P:aB (λk=>k=M) w1 (Ox w1 M t y (w.heap.size+2) (s.pc-1)):=(((aY w1 M 4 _).setCell (dq M 5) _ (λ_=>rfl)).setCell (dq M 1) _ (λ_=>rfl)).alloc _;have z:(Ox w1 M t y (w.heap.size+2) (s.pc-1)).heap[M]? =some (Obj.cells (eL b (s.pc-1) val (aD gf) (.iface t y) (.slice (eb w1.heap.size) 1 1) (.pointer top) out 0 0 0 ⟨#[]⟩) 119 (0,0)):=(aw (TH (TH (TH f)))).trans rfl;have m:(Ox w1 M t y (w.heap.size+2) (s.pc-1)).heap[w1.heap.size]? =some (.cells #[.iface 216 (Pt (w.heap.size+2))] 81):=by
  unfold Ox;rw[aQ,fN (by simp)]
 have h3:=h2.ext' f P z (X':=λk=>X k\/k=w1.heap.size) (ow':=λk=>if k=w1.heap.size then some 0 else ow k) (λk v=>.inl v) (λk v l=>l.elim id (λe=>by omega)) (λk v=>fb (by omega)) (λk t G=>by
   have G:(if k=w1.heap.size then some 0 else ow k)=some t:=G;by_cases e:k=w1.heap.size
   .exact .inr e
   .rw[fb e] at G;exact .inl (h.owx _ _ G)) (λk l v=>by
   rcases l with l|l
   .have:=h1.Pn k l;omega
   .subst l;exact⟨_,_,m,by decide⟩)
 have kk:aC 205 w (Ox w1 M t y (w.heap.size+2) (s.pc-1)):=(TX j).trans (T8 f P (by decide));have L:=fS mo (2 *s.obs.length) (w.heap.size+2) (by
   cases e:mo (2 *s.obs.length) with
   |none=>rfl
   |some g'=>exact absurd (h.mdm _ _ e) (by omega))
 refine⟨rfl,_,_,⟨_,_,_,_,_,_,_,_,z,h3.sy {s with app:=some (Y,[.proc (2 *s.obs.length)]),obs:=s.obs++[some (.kont s.st)],pc:=s.pc-1} val (.iface t y) (.slice (eb w1.heap.size) 1 1) top gf rfl rfl rfl h3.val h3.fr ⟨VX.ak kk L _ _ E,[_],⟨⟨by omega,w.heap.size+2,ey _ _ _,rfl⟩,trivial⟩,.inr ⟨w1.heap.size,0,1,_,rfl,ew _,by unfold maxLen;omega,m,rfl,.inl ⟨fN rfl,rfl,rfl⟩⟩⟩ h3.st⟩,?_⟩;refine Gw.trans (w1:=w1) (X1:=X) (ow1:=ow) ⟨TW _ j,λ_ _ h _=>h,λ_ _ h=>h,λ_ _ h=>h⟩ ⟨P.mono (λk e=>by subst e;rw[h.owM];simp),λk v l _=>.inl l,λk v l=>l.elim id (λe=>by omega),λk v ho=> ?_⟩;show(if k=w1.heap.size then some 0 else ow k)=none;rw[fb (by omega)];exact ho
def Dj:Prop:=∀(B K:Nat) (w:aa) (X:a9) (ow mo mf:Nat->Option Nat) (M b:Nat) (C:Cd) (s:MS) (val app args out:al) (top:a8) (gf:Nat) (n:Int) (pid g:Nat) (c:ao) (a:List V),RS B K w X ow mo mf M b C s val app args out top gf->
 w.heap[M]? =some (Obj.cells (eL b s.pc val (aD gf) app args (.pointer top) out 0 0 0 ⟨#[]⟩) 119 (0,0))->s.app=some (.proc pid,a)->app=.iface 216 (Pt g)->w.heap[g]? =some (Obj.cells #[.string c,Jn (1:Nat),.func (.func 175) #[aD M] #[]] 220 (0,0))->a.length=1->bV C {s with app:=none} 12 a≠.bad->
 cl 128 #[Pt M,Jn n] w (aV B K X ow w M b C (bV C {s with app:=none} 12 a))
theorem KD(C:Cd)(s:MS)(a:List V)(k:PK)(c:Hz C s a k≠.bad)(b:a.length≠nF C k):Hz C s a k=eE s 7:=by
 cases k with
 |first k=>
  have b:a.length≠eD k:=b;simp only[Hz,fb b]
 |clo l f=>
  simp only[Hz] at c ⊢;cases hc:C.ls[l]? with
  |none=>rw[hc] at c;exact absurd rfl c
  |some t=>
   obtain⟨nm,ns,e⟩:=t;have b:a.length≠ns.length:=by simpa[nF,hc] using b
   simp only[fb b]
 |kont st=>
  have b:a.length≠1:=b
  match a,b with
  |[],_=>rfl
  |[x],h=>exact absurd rfl h
  |x::y::r,_=>rfl
theorem Bh(hD:Dj){w:aa}{X:a9}{b:Nat}{val out:al}{top:a8}(h:RS B K w X ow mo mf M b C s val app args out top gf)(F:w.heap[M]? =some (.cells (eL b s.pc val (aD gf) app args (.pointer top) out 0 0 0 ⟨#[]⟩) 119))(n:Int)(Y:0<s.pc/\s.pc<10000000)(r:dV C s 12 n≠.bad):cl 128 #[Pt M,Jn n] w (aV B K X ow w M b C (dV C s 12 n)):=by
 obtain⟨k0,k1,k2,k3,k4,k5,k6,k7,k8,k9,k10,k11⟩:=bq F;have hA:=h.app;simp only[dV,nS] at r ⊢;cases hap:s.app with
 |none=>rw[hap] at r;exact absurd rfl r
 |some pa=>
  obtain⟨p,a⟩:=pa;rw[hap] at r hA;obtain⟨hp,xs,h0,Z⟩:=hA;by_cases S:∃i,p=.proc i
  .obtain⟨pid,rfl⟩:=S;simp only[] at r ⊢;obtain⟨h2,g,V,m⟩:=hp;cases hk:sn s pid with
   |none=>rw[hk] at r;exact absurd rfl r
   |some k=>
    rw[hk] at r;simp only[] at r ⊢;have W:s.obs[pid/2]? =some (some k):=by
     unfold sn at hk;rw[fN h2] at hk
     revert hk
     cases s.obs[pid/2]? with
     |none=>intro hk;cases hk
     |some o=>
      cases o with
      |none=>intro hk;cases hk
      |some k'=>intro hk;cases hk;rfl
    obtain⟨g',z,fv,P,c,N⟩:=h.obs _ _ W;rw[show 2 *(pid/2)=pid by omega,V] at P;cases P;have g0:=kd c 0 (.string z);have g1:=kd c 1 (Jn (nF C k:Nat));by_cases O:a.length=nF C k
    .cases k with
     |first k=>
      have d:a.length=eD k:=O;simp only[Hz,fN d] at r ⊢;rcases N with⟨rfl,rfl⟩|⟨rfl,rfl⟩|⟨Q,mb,H,T,I,rfl,A,q⟩
      .exact hD B K w X ow mo mf M b C s val app args out top gf n pid g z a h F hap m c d r
      .exact Be h F n pid g z a hap m c d Y
      .match k,Q,d,r,c,q with
       |0,_,d,r,c,q=>exact kt h F n pid g mb H _ z T I a hap m c A q d 0 _ (λ_ _=>rfl) 130 (λi j=>Jn (wrap64 (i+j))) (λ_ _ _ _=>⟨by rw[Dd],(oY _).1,(oY _).2⟩) (λE gf J G D n pc old L i j=>LJ w.drew.drew M E gf mb H J G D n pc old L i j) r
       |1,_,d,r,c,q=>exact kt h F n pid g mb H _ z T I a hap m c A q d 1 _ (λ_ _=>rfl) 130 (λi j=>Jn (wrap64 (i-j))) (λ_ _ _ _=>⟨by rw[Dd],(oY _).1,(oY _).2⟩) (λE gf J G D n pc old L i j=>Ib w.drew.drew M E gf mb H J G D n pc old L i j) r
       |2,_,d,r,c,q=>exact kt h F n pid g mb H _ z T I a hap m c A q d 2 _ (λ_ _=>rfl) 130 (λi j=>Jn (wrap64 (i *j))) (λ_ _ _ _=>⟨by rw[Dd],(oY _).1,(oY _).2⟩) (λE gf J G D n pc old L i j=>Ie w.drew.drew M E gf mb H J G D n pc old L i j) r
       |3,_,d,r,c,q=>exact kt h F n pid g mb H _ z T I a hap m c A q d 3 _ (λ_ _=>rfl) 131 (λi j=>.bool (decide (i<j))) (λ_ _ _ _=>rfl) (λE gf J G D n pc old L i j=>LI w.drew.drew M E gf mb H J G D n pc old L i j) r
       |4,_,d,r,c,q=>exact kt h F n pid g mb H _ z T I a hap m c A q d 4 _ (λ_ _=>rfl) 131 (λi j=>.bool (i==j)) (λ_ _ _ _=>rfl) (λE gf J G D n pc old L i j=>Ia w.drew.drew M E gf mb H J G D n pc old L i j) r
       |5,_,d,r,c,q=>exact G0 h F n pid g mb H z T I a hap m c A q d r
       |6,_,d,r,c,q=>exact Lh h F n pid g mb H z T I a hap m c A q d r
       |7,_,d,r,c,q=>exact Li h F n pid g mb H z T I a hap m c A q d r
       |8,_,d,r,c,q=>exact yi h F n pid g mb H z T I a hap m c A q d r
       |9,_,d,r,c,q=>exact Bf h F n pid g mb H z T I a hap m c A q d r
       |10,_,d,r,c,q=>exact Ll h F n pid g mb H z T I a hap m c A q d r
       |11,_,d,r,c,q=>exact G2 h F n pid g mb H z T I a hap m c A q d r
       |k+12,hk,_,_,_,_=>exact absurd hk (by omega)
     |clo l f=>
      simp only[Hz] at r ⊢;cases hc:C.ls[l]? with
      |none=>rw[hc] at r;exact absurd rfl r
      |some t=>
       obtain⟨nm,ns,e⟩:=t;have U:nF C (.clo l f)=ns.length:=by simp[nF,hc]
       simp only[fN (O.trans U)];exact Lj h F n pid l f g z fv a _ hap m c N O nm ns e hc U
     |kont st=>
      have d:a.length=1:=O;obtain⟨v,rfl⟩:∃v,a=[v]:=by
       match a,d with
       |[v],_=>exact⟨v,rfl⟩
      exact G1 h F n pid g st z fv [v] hap m c N v rfl r
    .have he:=KD C _ a k r O;rw[he] at r ⊢;obtain⟨av,ac,rfl,_,_,_,_⟩:=Z.at;rw[m] at k4;refine(yj w M g (nF C k) xs.length ac n z av k4 k5 g0 g1 (by rw[<-h0.length];exact O)).mono ?_;rintro e w' ⟨rfl,rfl⟩;exact d8 h F 7 z _ ⟨1,rfl⟩ r
  .have R:∀i,p≠.proc i:=λi e=>S ⟨i,e⟩;obtain⟨t,x,rfl⟩:=hp.form;have key:eE s 6≠.bad->cl 128 #[Pt M,Jn n] w (aV B K X ow w M b C (eE s 6)):=λr=>by
    refine(Bg w M n t x k4 (O0 hp R)).mono ?_;rintro e w' ⟨rfl,U⟩;exact rB h F 6 _ 0 (by omega) rfl w' U r
   cases p with
   |proc i=>exact absurd rfl (R i)
   |int k=>exact key r
   |bool k=>exact key r
   |sym k=>exact key r
   |empty=>exact key r
   |nothing=>exact key r
   |pair i u v=>exact key r
end Go.Proofs.YtlobegpjenabaaaGreatDoor
