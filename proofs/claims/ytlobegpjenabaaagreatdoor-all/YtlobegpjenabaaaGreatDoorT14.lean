import Derived.Test.YtlobegpjenabaaaGreatDoorT13
import Derived.LaidEql
namespace Go.Proofs.YtlobegpjenabaaaGreatDoor
open Go.RowKit Tryz
set_option linter.unusedVariables false
set_option linter.defProp false
set_option maxRecDepth 100000
set_option maxHeartbeats 4000000
def S5:=@Option.map_eq_some_iff
variable {tp te tg tk T T' t:bi} {cg ck c':bc} {mo ow mf:Nat->Option Nat} {k k' B K M gf i g S o:Nat} {a:V} {x app args u nv vv:al} {C:Cd} {s:MS} {xs:a7} {w':aa} {pn:ao} {op:a8} {n:Int} {e:bo}
theorem pi(u v:al)(w:aa):(Go.binOp .eql 81 (.iface 130 u) (.iface 131 v)).run prog w=.ok (.bool false) w:=by kernel_rfl
theorem tA(u v:al)(w:aa):(Go.binOp .eql 81 (.iface 130 u) (.iface 134 v)).run prog w=.ok (.bool false) w:=by kernel_rfl
theorem mQ(u v:al)(w:aa):(Go.binOp .eql 81 (.iface 130 u) (.iface 207 v)).run prog w=.ok (.bool false) w:=by kernel_rfl
theorem ru(u v:al)(w:aa):(Go.binOp .eql 81 (.iface 130 u) (.iface 259 v)).run prog w=.ok (.bool false) w:=by kernel_rfl
theorem yJ(u v:al)(w:aa):(Go.binOp .eql 81 (.iface 131 u) (.iface 130 v)).run prog w=.ok (.bool false) w:=by kernel_rfl
theorem rq(u v:al)(w:aa):(Go.binOp .eql 81 (.iface 131 u) (.iface 134 v)).run prog w=.ok (.bool false) w:=by kernel_rfl
theorem lL(u v:al)(w:aa):(Go.binOp .eql 81 (.iface 131 u) (.iface 207 v)).run prog w=.ok (.bool false) w:=by kernel_rfl
theorem pO(u v:al)(w:aa):(Go.binOp .eql 81 (.iface 131 u) (.iface 259 v)).run prog w=.ok (.bool false) w:=by kernel_rfl
theorem tB(u v:al)(w:aa):(Go.binOp .eql 81 (.iface 134 u) (.iface 130 v)).run prog w=.ok (.bool false) w:=by kernel_rfl
theorem kH(u v:al)(w:aa):(Go.binOp .eql 81 (.iface 134 u) (.iface 131 v)).run prog w=.ok (.bool false) w:=by kernel_rfl
theorem kf(u v:al)(w:aa):(Go.binOp .eql 81 (.iface 134 u) (.iface 207 v)).run prog w=.ok (.bool false) w:=by kernel_rfl
theorem mU(u v:al)(w:aa):(Go.binOp .eql 81 (.iface 134 u) (.iface 259 v)).run prog w=.ok (.bool false) w:=by kernel_rfl
theorem wk(u v:al)(w:aa):(Go.binOp .eql 81 (.iface 207 u) (.iface 130 v)).run prog w=.ok (.bool false) w:=by kernel_rfl
theorem lM(u v:al)(w:aa):(Go.binOp .eql 81 (.iface 207 u) (.iface 131 v)).run prog w=.ok (.bool false) w:=by kernel_rfl
theorem pP(u v:al)(w:aa):(Go.binOp .eql 81 (.iface 207 u) (.iface 134 v)).run prog w=.ok (.bool false) w:=by kernel_rfl
theorem n4(u v:al)(w:aa):(Go.binOp .eql 81 (.iface 207 u) (.iface 259 v)).run prog w=.ok (.bool false) w:=by kernel_rfl
theorem rv(u v:al)(w:aa):(Go.binOp .eql 81 (.iface 259 u) (.iface 130 v)).run prog w=.ok (.bool false) w:=by kernel_rfl
theorem j9(u v:al)(w:aa):(Go.binOp .eql 81 (.iface 259 u) (.iface 131 v)).run prog w=.ok (.bool false) w:=by kernel_rfl
theorem mR(u v:al)(w:aa):(Go.binOp .eql 81 (.iface 259 u) (.iface 134 v)).run prog w=.ok (.bool false) w:=by kernel_rfl
theorem jk(u v:al)(w:aa):(Go.binOp .eql 81 (.iface 259 u) (.iface 207 v)).run prog w=.ok (.bool false) w:=by kernel_rfl
theorem yK(u v:al)(w:aa):(Go.binOp .eql 81 (.iface 130 u) (.iface 136 v)).run prog w=.ok (.bool false) w:=by kernel_rfl
theorem yL(u v:al)(w:aa):(Go.binOp .eql 81 (.iface 130 u) (.iface 216 v)).run prog w=.ok (.bool false) w:=by kernel_rfl
theorem yN(u v:al)(w:aa):(Go.binOp .eql 81 (.iface 136 u) (.iface 130 v)).run prog w=.ok (.bool false) w:=by kernel_rfl
theorem yO(u v:al)(w:aa):(Go.binOp .eql 81 (.iface 216 u) (.iface 130 v)).run prog w=.ok (.bool false) w:=by kernel_rfl
theorem wi(u v:al)(w:aa):(Go.binOp .eql 81 (.iface 131 u) (.iface 136 v)).run prog w=.ok (.bool false) w:=by kernel_rfl
theorem wj(u v:al)(w:aa):(Go.binOp .eql 81 (.iface 131 u) (.iface 216 v)).run prog w=.ok (.bool false) w:=by kernel_rfl
theorem mS(u v:al)(w:aa):(Go.binOp .eql 81 (.iface 136 u) (.iface 131 v)).run prog w=.ok (.bool false) w:=by kernel_rfl
theorem mT(u v:al)(w:aa):(Go.binOp .eql 81 (.iface 216 u) (.iface 131 v)).run prog w=.ok (.bool false) w:=by kernel_rfl
theorem rz(u v:al)(w:aa):(Go.binOp .eql 81 (.iface 134 u) (.iface 136 v)).run prog w=.ok (.bool false) w:=by kernel_rfl
theorem rA(u v:al)(w:aa):(Go.binOp .eql 81 (.iface 134 u) (.iface 216 v)).run prog w=.ok (.bool false) w:=by kernel_rfl
theorem rx(u v:al)(w:aa):(Go.binOp .eql 81 (.iface 136 u) (.iface 134 v)).run prog w=.ok (.bool false) w:=by kernel_rfl
theorem ry(u v:al)(w:aa):(Go.binOp .eql 81 (.iface 216 u) (.iface 134 v)).run prog w=.ok (.bool false) w:=by kernel_rfl
theorem tw(u v:al)(w:aa):(Go.binOp .eql 81 (.iface 207 u) (.iface 136 v)).run prog w=.ok (.bool false) w:=by kernel_rfl
theorem tz(u v:al)(w:aa):(Go.binOp .eql 81 (.iface 207 u) (.iface 216 v)).run prog w=.ok (.bool false) w:=by kernel_rfl
theorem lN(u v:al)(w:aa):(Go.binOp .eql 81 (.iface 136 u) (.iface 207 v)).run prog w=.ok (.bool false) w:=by kernel_rfl
theorem lO(u v:al)(w:aa):(Go.binOp .eql 81 (.iface 216 u) (.iface 207 v)).run prog w=.ok (.bool false) w:=by kernel_rfl
theorem pQ(u v:al)(w:aa):(Go.binOp .eql 81 (.iface 259 u) (.iface 136 v)).run prog w=.ok (.bool false) w:=by kernel_rfl
theorem pR(u v:al)(w:aa):(Go.binOp .eql 81 (.iface 259 u) (.iface 216 v)).run prog w=.ok (.bool false) w:=by kernel_rfl
theorem pS(u v:al)(w:aa):(Go.binOp .eql 81 (.iface 136 u) (.iface 259 v)).run prog w=.ok (.bool false) w:=by kernel_rfl
theorem pT(u v:al)(w:aa):(Go.binOp .eql 81 (.iface 216 u) (.iface 259 v)).run prog w=.ok (.bool false) w:=by kernel_rfl
theorem wl(u v:al)(w:aa):(Go.binOp .eql 81 (.iface 136 u) (.iface 216 v)).run prog w=.ok (.bool false) w:=by kernel_rfl
theorem wm(u v:al)(w:aa):(Go.binOp .eql 81 (.iface 216 u) (.iface 136 v)).run prog w=.ok (.bool false) w:=by kernel_rfl
theorem BM(a b:Int)(w:aa):(Go.binOp .eql 81 (.iface 130 (Jn a)) (.iface 130 (Jn b))).run prog w=.ok (.bool (a==b)) w:=by kernel_rfl
theorem mP(a b:Bool)(w:aa):(Go.binOp .eql 81 (.iface 131 (.bool a)) (.iface 131 (.bool b))).run prog w=.ok (.bool (a==b)) w:=by kernel_rfl
theorem BN(a b:ao)(w:aa):(Go.binOp .eql 81 (.iface 134 (.string a)) (.iface 134 (.string b))).run prog w=.ok (.bool (a==b)) w:=by kernel_rfl
theorem fI(w:aa):(Go.binOp .eql 81 (.iface 207 (.agg #[])) (.iface 207 (.agg #[]))).run prog w=.ok (.bool true) w:=by kernel_rfl
theorem eO(w:aa):(Go.binOp .eql 81 (.iface 259 (.agg #[])) (.iface 259 (.agg #[]))).run prog w=.ok (.bool true) w:=by kernel_rfl
theorem Ik(hp:prog.underlying tp=some (.pointer te))(f:(prog.info? tp).map (λi=>i.comparable)=some true)(p:(prog.info? te).map (λi=>decide (i.size=0))=some false)(g k:Nat)(w:aa)(l:w.heap[g]? =some (.cells cg tg (0,0)))(m:w.heap[k]? =some (.cells ck tk (0,0))):
  (Go.binOp .eql 81 (.iface tp (Pt g)) (.iface tp (Pt k))).run prog w=.ok (.bool (g==k)) w:=by
 obtain⟨i,hi,b⟩:=S5.1 f;obtain⟨j,d,c⟩:=S5.1 p;by_cases e:g=k
 .subst e;rw[run_eql_iface_ptr_same w (dq g 0) underlying81 hp hi b d];simp
 .rw[run_eql_iface_ptr_other w underlying81 hp hi b d (by simpa using c) (by intro h;injection h with h1;exact e h1) l m];simp[e]
theorem EF:(prog.info? 136).map (λi=>i.comparable)=some true:=by kernel_rfl
theorem EG:(prog.info? 216).map (λi=>i.comparable)=some true:=by kernel_rfl
theorem F3:(prog.info? 205).map (λi=>decide (i.size=0))=some false:=by kernel_rfl
theorem F4:(prog.info? 220).map (λi=>decide (i.size=0))=some false:=by kernel_rfl
theorem P7{w:aa}(inj:∀i j g,mo i=some g->mo j=some g->i=j)(z:∀k g,mo (2 *k)=some g->∃c T,w.heap[g]? =some (Obj.cells c T (0,0))/\MT.contains T=false):∀(a b:V) (x y:al),VX w mo a x->VX w mo b y->(Go.binOp .eql 81 x y).run prog w=.ok (.bool (cj a b)) w:=by
 intro a b x y h hb;cases a with
 |int m=>
  obtain⟨rfl,_⟩:=h;cases b with
  |int n=>obtain⟨rfl,_⟩:=hb;exact BM m n w
  |bool q=>cases hb;exact pi _ _ w
  |sym s=>obtain⟨rfl,_⟩:=hb;exact tA _ _ w
  |empty=>cases hb;exact mQ _ _ w
  |nothing=>cases hb;exact ru _ _ w
  |pair i p q=>obtain⟨g,u,v,_,rfl,_⟩:=hb;exact yK _ _ w
  |proc i=>obtain⟨_,g,_,rfl⟩:=hb;exact yL _ _ w
 |bool m=>
  cases h;cases b with
  |int n=>obtain⟨rfl,_⟩:=hb;exact yJ _ _ w
  |bool q=>cases hb;exact mP m q w
  |sym s=>obtain⟨rfl,_⟩:=hb;exact rq _ _ w
  |empty=>cases hb;exact lL _ _ w
  |nothing=>cases hb;exact pO _ _ w
  |pair i p q=>obtain⟨g,u,v,_,rfl,_⟩:=hb;exact wi _ _ w
  |proc i=>obtain⟨_,g,_,rfl⟩:=hb;exact wj _ _ w
 |sym m=>
  obtain⟨rfl,_⟩:=h;cases b with
  |int n=>obtain⟨rfl,_⟩:=hb;exact tB _ _ w
  |bool q=>cases hb;exact kH _ _ w
  |sym s=>
   obtain⟨rfl,_⟩:=hb;rw[BN]
   congr 2
   show(m.toArray==s.toArray)=(m==s);simp
  |empty=>cases hb;exact kf _ _ w
  |nothing=>cases hb;exact mU _ _ w
  |pair i p q=>obtain⟨g,u,v,_,rfl,_⟩:=hb;exact rz _ _ w
  |proc i=>obtain⟨_,g,_,rfl⟩:=hb;exact rA _ _ w
 |empty=>
  cases h;cases b with
  |int n=>obtain⟨rfl,_⟩:=hb;exact wk _ _ w
  |bool q=>cases hb;exact lM _ _ w
  |sym s=>obtain⟨rfl,_⟩:=hb;exact pP _ _ w
  |empty=>cases hb;first|exact fI _ _ w|exact fI w
  |nothing=>cases hb;first|exact n4 _ _ w|exact eO w
  |pair i p q=>obtain⟨g,u,v,_,rfl,_⟩:=hb;exact tw _ _ w
  |proc i=>obtain⟨_,g,_,rfl⟩:=hb;exact tz _ _ w
 |nothing=>
  cases h;cases b with
  |int n=>obtain⟨rfl,_⟩:=hb;exact rv _ _ w
  |bool q=>cases hb;exact j9 _ _ w
  |sym s=>obtain⟨rfl,_⟩:=hb;exact mR _ _ w
  |empty=>cases hb;first|exact jk _ _ w|exact fI w
  |nothing=>cases hb;first|exact eO _ _ w|exact eO w
  |pair i p q=>obtain⟨g,u,v,_,rfl,_⟩:=hb;exact pQ _ _ w
  |proc i=>obtain⟨_,g,_,rfl⟩:=hb;exact pR _ _ w
 |pair i p q=>
  obtain⟨g,u,v,r,rfl,l,_⟩:=h;cases b with
  |int n=>obtain⟨rfl,_⟩:=hb;exact yN _ _ w
  |bool q=>cases hb;exact mS _ _ w
  |sym s=>obtain⟨rfl,_⟩:=hb;exact rx _ _ w
  |empty=>cases hb;exact lN _ _ w
  |nothing=>cases hb;exact pS _ _ w
  |pair j A D=>
   obtain⟨k,E,F,d,rfl,f,_⟩:=hb;rw[Ik underlying136 EF F3 g k w l f]
   congr 2
   show(g==k)=(i==j);rw[C2,xb,xb];exact⟨λe=>by subst e;exact inj _ _ _ r d,λe=>by subst e;rw[r] at d;cases d;rfl⟩
  |proc i=>obtain⟨_,g,_,rfl⟩:=hb;exact wl _ _ w
 |proc i=>
  obtain⟨h2,g,r,rfl⟩:=h;cases b with
  |int n=>obtain⟨rfl,_⟩:=hb;exact yO _ _ w
  |bool q=>cases hb;exact mT _ _ w
  |sym s=>obtain⟨rfl,_⟩:=hb;exact ry _ _ w
  |empty=>cases hb;exact lO _ _ w
  |nothing=>cases hb;exact pT _ _ w
  |pair j A D=>obtain⟨k,E,F,d,rfl,f,_⟩:=hb;exact wm _ _ w
  |proc j=>
   obtain⟨h3,k,d,rfl⟩:=hb;obtain⟨cg,tg,l,_⟩:=z (i/2) g (by rw[show 2 *(i/2)=i by omega];exact r);obtain⟨ck,tk,f,_⟩:=z (j/2) k (by rw[show 2 *(j/2)=j by omega];exact d);rw[Ik underlying216 EG F4 g k w l f]
   congr 2
   show(g==k)=(i==j);rw[C2,xb,xb];exact⟨λe=>by subst e;exact inj _ _ _ r d,λe=>by subst e;rw[r] at d;cases d;rfl⟩
theorem aU{w:aa}{c:bc}(h:w.heap[k]? =some (.cells c T))(b:w.heap[k']? =some (.cells c' T'))(d:T≠T'):k≠k':=λe=>by
 subst e;have:=pb (h.symm.trans b);injection this with _ h2;exact d h2
theorem ul{w:aa}(b:VX w mo a (.iface t x))(W:aa):(Go.binOp .eql 81 (.iface t x) (.iface 131 (.bool false))).run prog W=.ok (.bool (cj a (.bool false))) W:=by
 cases a with
 |int n=>obtain⟨e,_⟩:=b;cases e;exact pi _ _ W
 |bool q=>cases b;exact mP q false W
 |sym s=>obtain⟨e,_⟩:=b;cases e;exact kH _ _ W
 |empty=>cases b;exact lM _ _ W
 |nothing=>cases b;exact j9 _ _ W
 |pair i p q=>obtain⟨g,u,v,_,e,_⟩:=b;cases e;exact mS _ _ W
 |proc i=>obtain⟨_,g,_,e⟩:=b;cases e;exact mT _ _ W
theorem EQ{w:aa}(b:VX w mo a (.iface t x))(W:aa):(Go.binOp .eql 81 (.iface t x) (.iface 207 (.agg #[]))).run prog W=.ok (.bool (cj a .empty)) W:=by
 cases a with
 |int n=>obtain⟨e,_⟩:=b;cases e;exact mQ _ _ W
 |bool q=>cases b;exact lL _ _ W
 |sym s=>obtain⟨e,_⟩:=b;cases e;exact kf _ _ W
 |empty=>cases b;exact fI W
 |nothing=>cases b;exact jk _ _ W
 |pair i p q=>obtain⟨g,u,v,_,e,_⟩:=b;cases e;exact lN _ _ W
 |proc i=>obtain⟨_,g,_,e⟩:=b;cases e;exact lO _ _ W
theorem yt{w:aa}{X:a9}{b:Nat}{val out:al}{top:a8}(h:RS B K w X ow mo mf M b C s val app args out top gf)(c:w.heap[M]? =some (.cells (eL b s.pc val (aD gf) app args (.pointer top) out 0 0 0 ⟨#[]⟩) 119))(n:Int)(f:dV C s 8 n≠.bad):cl 124 #[Pt M,Jn n] w (aV B K X ow w M b C (dV C s 8 n)):=by
 obtain⟨A,k1,k2,k3,D,E,k6,F,G,H,k10,k11⟩:=bq c;have j:=h.st;have l:=h.val;simp only[dV] at f ⊢;cases hs:s.st with
 |nil=>rw[hs] at f;exact absurd rfl f
 |cons z r=>
  rw[hs] at j f;cases hsv:s.val with
  |none=>rw[hsv] at f;exact absurd rfl f
  |some v=>
   rw[hsv] at l;have l:VX w mo v val:=l;obtain⟨t,x,rfl⟩:=l.form;obtain⟨g,q,gf0,got,rfl,m,_,_,_,_,p⟩:=j;have c0:=ae m 0;refine(Bn w M g n s.pc q t x (cj v (.bool false)) (aU m c (by decide)) k6 (ah c 6) c0 k2 k1 (ah c 1) (ul l)).mono ?_;rintro e w' ⟨rfl,rfl⟩;cases hb:cj v (.bool false) with
   |false=>
    simp only[hb,Bool.false_eq_true,SI];refine⟨rfl,h.go c (aY w M 6 _) _ (.iface t x) app args q gf ((TH c).trans rfl) rfl rfl rfl λd=>⟨by have:=d.val;rw[hsv] at this;exact this,d.fr,d.app,p.cG c (aY w M 6 _)⟩⟩
   |true=>
    simp only[hb,Ty];have y:aB (λk=>k=M) w ((w.setCell (dq M 6) (.pointer q)).setCell (dq M 1) (Jn n)):=(aY w M 6 _).setCell _ _ (λ_=>rfl);refine⟨rfl,h.go c y _ (.iface t x) app args q gf ((TH (TH c)).trans rfl) rfl rfl rfl λd=>⟨by have:=d.val;rw[hsv] at this;exact this,d.fr,d.app,p.cG c y⟩⟩
theorem Fj{w:aa}{X:a9}{b:Nat}{val out:al}{top:a8}(h:RS B K w X ow mo mf M b C s val app args out top gf)(p:w.heap[M]? =some (.cells (eL b s.pc val (aD gf) app args (.pointer top) out 0 0 0 ⟨#[]⟩) 119))(n:Int)(d:dV C s 2 n≠.bad):cl 118 #[Pt M,Jn n] w (aV B K X ow w M b C (dV C s 2 n)):=by
 obtain⟨U,k1,k2,k3,V,W,k6,Y,Z,k9,k10,k11⟩:=bq p;have E:s.fr<s.frs.length:=h.fdm _ _ h.fr;have z:=DF h s.fr gf E h.fr n;simp only[dV] at d ⊢;cases hfs:fZ s.frs (s.fr+1) s.fr n with
 |none=>
  rw[hfs] at d z;refine(Fh w M gf n k3 (ag (z.mono λe w' hp=>⟨hp.2,hp.1⟩))).mono ?_;rintro e w' ⟨rfl,F⟩;exact rB h p 5 _ 0 (by omega) rfl w' F d
 |some J=>
  obtain⟨f,j⟩:=J;rw[hfs] at d z;simp only[] at d ⊢;cases hfr:s.frs[f]? with
  |none=>rw[hfr] at d;exact absurd rfl d
  |some fr=>
   rw[hfr] at d;simp only[] at d ⊢;cases hvj:fr.vs[j]? with
   |none=>rw[hvj] at d;exact absurd rfl d
   |some v=>
    refine(Fi w M gf n _ (λq o=>∃y,w.cell? ⟨q,o,none⟩=some y/\VX w mo v y) k3 k2 (ah p 2) (ag ?_) (ag (z.mono ?_))).mono ?_
    .rintro q o ⟨y,m,r⟩;obtain⟨t,x,rfl⟩:=r.form;exact⟨t,x,m⟩
    .rintro e w' ⟨F,L,Q,pn,nv,q,G,I,op,xs,h1,h2,h3,H,N⟩;rw[hfr] at h1;cases h1;obtain⟨y,m,r⟩:=eV.get j v h3.vs hvj;obtain⟨a,cap',P,_,_,_,D⟩:=h3.vr.at;obtain⟨R,oo,c,O,_,_,l⟩:=D j H;cases P;cases O;rw[fA H] at m;cases m;exact⟨F,q,G+j,⟨_,l,r⟩,N⟩
    .rintro e w' ⟨q,o,t,x,⟨y,m,r⟩,D,rfl,rfl⟩;rw[D] at m;cases m;exact⟨rfl,h.go p (aY w M 2 _) _ (.iface t x) app args top gf ((TH p).trans rfl) rfl rfl rfl λA=>⟨r.cG p (aY w M 2 _),A.fr,A.app,A.st⟩⟩
theorem J4{w:aa}{X:a9}{b:Nat}{val out:al}{top:a8}(h:RS B K w X ow mo mf M b C s val app args out top gf)(G:w.heap[M]? =some (.cells (eL b s.pc val (aD gf) app args (.pointer top) out 0 0 0 ⟨#[]⟩) 119))(n:Int)(p:dV C s 10 n≠.bad):cl 126 #[Pt M,Jn n] w (aV B K X ow w M b C (dV C s 10 n)):=by
 obtain⟨k0,k1,k2,k3,k4,k5,k6,k7,k8,k9,k10,k11⟩:=bq G;have W:=h.st;have Z:=h.val;simp only[dV] at p ⊢;cases hs:s.st with
 |nil=>rw[hs] at p;exact absurd rfl p
 |cons en r=>
  rw[hs] at W p;cases hsv:s.val with
  |none=>rw[hsv] at p;exact absurd rfl p
  |some v=>
   rw[hsv] at Z p;have Z:VX w mo v val:=Z;obtain⟨t,x,rfl⟩:=Z.form;obtain⟨g,q,gf0,got,rfl,hg,_,_,_,_,hr⟩:=W;have c0:=ae hg 0;have A:=aY w M 6 (.pointer q);have z:(w.setCell ⟨M,6,none⟩ (.pointer q)).heap[M]? =some (.cells (eL b s.pc (.iface t x) (aD gf) app args (.pointer q) out 0 0 0 ⟨#[]⟩) 119):=(TH G).trans rfl;have h1:=(h.ext G A z).sy {s with st:=r} (.iface t x) app args q gf rfl rfl rfl (by have:=OV.ak (T8 G A (by decide)) (TV _) _ _ h.val;exact this) h.fr (h.ext G A z).app (hr.cG G A);have h7:s.fr<s.frs.length:=h.fdm _ _ h.fr;have P:=DF h1 s.fr gf h7 h.fr n;simp only[] at p P ⊢;have L:=h.gw A;cases hfs:fZ s.frs (s.fr+1) s.fr n with
   |none=>
    rw[hfs] at p P;refine(J2 w M g gf n q k6 (ah G 6) c0 k3 (ag (P.mono λe w' hp=>⟨hp.2,hp.1⟩))).mono ?_;rintro e w' ⟨rfl,rfl⟩;have h9:eE {s with st:=r} 5≠.bad:=by rw[hsv];exact p
    unfold eE at p ⊢;cases r with
    |nil=>exact absurd rfl p
    |cons e' r'=>exact⟨dR 5,0,rfl,by omega,rfl,X,ow,{s with st:=e'::r'},MR.self h1 z,L,rfl,rfl⟩
   |some fj=>
    obtain⟨f,j⟩:=fj;rw[hfs] at p P;simp only[] at p P ⊢;cases hfr:s.frs[f]? with
    |none=>rw[hfr] at p;exact absurd rfl p
    |some fr=>
     refine(J3 w M g gf n q t x (λm o=>∃N pn nv d y op xs,mf f=some N/\GC (w.setCell ⟨M,6,none⟩ (.pointer q)) X ow mo mf f fr N pn nv (.slice (some ⟨m,d,none⟩) xs.length y) op xs/\j<xs.length/\o=d+j) k6 (ah G 6) c0 k3 k2 (ah G 2) (ag ?_) (ag (P.mono ?_))).mono ?_
     .rintro m o ⟨N,pn,nv,d,y,op,xs,U,D,hj,rfl⟩;obtain⟨a,cap',hx,_,_,_,hc⟩:=D.vr.at;obtain⟨gg,oo,c,ha,_,l,E⟩:=hc j hj;cases hx;cases ha;have I:m≠M:=aU l z (by decide);have J:w.heap[m]? =some (.cells c 81):=by rw[<-eY w M 6 m _ I];exact l
      refine⟨I,⟨xs[j],?_⟩,ah J _⟩;unfold Cl;rw[ae J,<-ae l];exact E
     .rintro e w' ⟨hw,h0,N,pn,nv,m,d,y,op,xs,H,h2,h3,h4,h5⟩;have H:s.frs[f]? =some h0:=H;rw[hfr] at H;cases H;exact⟨hw,m,d+j,⟨N,pn,nv,d,y,op,xs,h2,h3,h4,rfl⟩,h5⟩
     .rintro e w' ⟨m,o,⟨N,pn,nv,d,y,op,xs,U,D,hj,rfl⟩,rfl,rfl⟩;obtain⟨a,cap',hx,_,_,_,hc⟩:=D.vr.at;obtain⟨gg,oo,c,ha,F,l,E⟩:=hc j hj;cases hx;cases ha;have F:ow m=some (f+1):=F.elim id id;have I:m≠M:=aU l z (by decide);have R:f<s.frs.length:=(ke.1 hfr).1;have kp:∀T,T≠81->aC T (w.setCell ⟨M,6,none⟩ (.pointer q)) ((w.setCell ⟨M,6,none⟩ (.pointer q)).setCell ⟨m,d+j,none⟩ (.iface t x)):=λT hT=>aK l hT;have Y:aB (λk=>ow k=some (f+1)) (w.setCell ⟨M,6,none⟩ (.pointer q)) ((w.setCell ⟨M,6,none⟩ (.pointer q)).setCell ⟨m,d+j,none⟩ (.iface t x)):=(TU _ _).setCell _ _ (λ_=>F);have h8:VX (w.setCell ⟨M,6,none⟩ (.pointer q)) mo v (.iface t x):=Z.cG G A;have h2:=h1.Qq f (fr.put j v) R Y (X':=X) (ow':=ow) (λ_ _ h=>h) (λ_ _ _=>rfl) h1.owx (λk hk _=>by
        obtain⟨_,c',T,O,hT⟩:=h1.xty k hk;by_cases e:k=m
        .subst e;rw[l] at O;cases O;exact⟨_,_,TH l,by decide⟩
        .exact⟨c',T,by rw[eY _ _ _ _ _ e];exact O,hT⟩)
       ⟨N,pn,nv,.slice (some ⟨m,d,none⟩) xs.length y,op,xs.set j (.iface t x),U,⟨D.tag,kp _ (by decide) _ _ D.hS,D.nr.ak (kp _ (by decide)),D.vr.put j _ hj,eV.set j v _ (eV.ak (kp _ (by decide)) (TV _) _ _ D.vs) (VX.ak (kp _ (by decide)) (TV _) _ _ h8),D.out,by simp[Fr.put,D.len],D.le⟩⟩
      have Q:=bQ (a:=⟨m,d+j,none⟩) (v:=.iface t x) z (λe=>I e.symm);have V:Gw X ow (w.setCell ⟨M,6,none⟩ (.pointer q)) X ow ((w.setCell ⟨M,6,none⟩ (.pointer q)).setCell ⟨m,d+j,none⟩ (.iface t x)):=⟨Y.mono (λk e=>by rw[e];simp),λ_ _ h _=>h,λ_ _ h=>h,λ_ _ h=>h⟩;obtain⟨X',ow',h6,hG⟩:=h2.go Q (aY _ M 2 (.iface 259 (.agg #[]))) {s with st:=r,val:=some .nothing,frs:=s.frs.set f (fr.put j v)} (.iface 259 (.agg #[])) app args q gf ((TH Q).trans rfl) rfl rfl rfl (λh'=>⟨rfl,h'.fr,h'.app,h'.st⟩);exact⟨rfl,X',ow',h6,(L.trans V).trans hG⟩
theorem RS.drew{w:aa}{X:a9}{b:Nat}{val out:al}{top:a8}(h:RS B K w X ow mo mf M b C s val app args out top gf):RS B K w.drew X ow mo mf M b C s val app args out top gf:=by
 have d:∀T,aC T w w.drew:=λT _ _ q=>q;obtain⟨c,u0,u1,u2,u3,x1,x3,f⟩:=h.code;exact⟨⟨c,u0,u1,u2,u3,x1,x3,f.ak (λ_ _=>d _) (ew _) (λb hb l=>⟨l,rfl⟩)⟩,OV.ak (d _) (TV _) _ _ h.val,h.fr,h.app.ak (d _) (TV _) (λb c hb f=>⟨hb,f⟩),h.st.ak (d _) (d _) (d _) (TV _) (TV _),h.out.ak (λb c hb f=>⟨hb,f⟩),λi fr hi=>(by obtain⟨g,pn,nv,vv,op,xs,h1,h2⟩:=h.frs i fr hi;exact⟨g,pn,nv,vv,op,xs,h1,h2.ak (d _) (TV _) (TV _) (λb hb m=>⟨m,rfl⟩) (λb hb l=>⟨l,rfl⟩)⟩),λj p hp=>(h.obs j p hp).ak (λ_ _=>d _) (TV _) (TV _) (λb hb l=>⟨l,rfl⟩),h.mlt,h.mdm,h.mcl,h.inj,h.mcd,h.fdm,h.owx,h.xty,h.owM,h.tab.below ((fL _ _).drew),h.hB⟩
theorem Rw.split{w:aa}{own sh:a9}(h:Rw w T own sh u xs):∃p:Option Nat,(∀k,p=some k->own k/\∃c,w.heap[k]? =some (Obj.cells c T (0,0)))/\Rw w T (λk=>p=some k) (λk=>sh k/\p=none) u xs:=by
 rcases h with h|⟨g,l,d,m,h1,h2,f,h3,q,r⟩
 .exact⟨none,(λk j=>by cases j),.inl h⟩
 .rcases r with⟨a,b,c⟩|⟨a,b⟩
  .exact⟨some g,(λk j=>by cases j;exact⟨a,m,h3⟩),.inr ⟨g,l,d,m,h1,h2,f,h3,q,.inl ⟨rfl,b,c⟩⟩⟩
  .exact⟨none,(λk j=>by cases j),.inr ⟨g,l,d,m,h1,h2,f,h3,q,.inr ⟨⟨a,rfl⟩,b⟩⟩⟩
theorem Rw.CX{w:aa}{own:a9}(h:Rw w T own own u xs):∃p:Option Nat,(∀k,p=some k->own k/\∃c,w.heap[k]? =some (Obj.cells c T (0,0)))/\Rw w T (λk=>p=some k) (λk=>p=some k) u xs:=by
 rcases h with h|⟨g,l,d,m,h1,h2,f,h3,q,r⟩
 .exact⟨none,(λk j=>by cases j),.inl h⟩
 .rcases r with⟨a,b,c⟩|⟨a,b⟩
  .exact⟨some g,(λk j=>by cases j;exact⟨a,m,h3⟩),.inr ⟨g,l,d,m,h1,h2,f,h3,q,.inl ⟨rfl,b,c⟩⟩⟩
  .exact⟨some g,(λk j=>by cases j;exact⟨a,m,h3⟩),.inr ⟨g,l,d,m,h1,h2,f,h3,q,.inr ⟨rfl,b⟩⟩⟩
def eU(g:Nat)(a kv:Option Nat)(k:Nat):Prop:=k=g\/a=some k\/kv=some k
theorem RS.nh{w:aa}{X:a9}{b:Nat}{val out:al}{top:a8}(h:RS B K w X ow mo mf M b C s val app args out top gf)(i g:Nat)(l:Fr)(pn:ao)(nv vv:al)(op:a8)(z:a7)(hi:i<s.frs.length)(U:mf i=some g)(R:aB (λk=>ow k=some (i+1)) w w')(r:ow g=some (i+1))(hS:w'.heap[g]? =some (Obj.cells #[.string pn,nv,vv,.pointer op] 176 (0,0)))(L:Rw w' 3 (λk=>ow k=some (i+1)\/w.heap.size<=k) (λk=>¬X k) nv (l.ns.map (Value.int .i64)))(N:Rw w' 81 (λk=>ow k=some (i+1)\/w.heap.size<=k) (λk=>ow k=some (i+1)\/w.heap.size<=k) vv z)(O:eV w' mo l.vs z)(G:match l.out with
   |none=>op=none
   |some j=>j<i/\∃Q,mf j=some Q/\op=eb Q)(F:l.ns.length=l.vs.length)(J:l.ns.length<=1000000):
  ∃X' ow',RS B K w' X' ow' mo mf M b C {s with frs:=s.frs.set i l} val app args out top gf/\Gw X ow w X' ow' w':=by
 classical
 obtain⟨m,E,L⟩:=L.split;obtain⟨kv,v,N⟩:=N.CX;have P:∀k,X k->k<w.heap.size:=λk f=>by obtain⟨_,c,T,h1,_⟩:=h.xty k f;exact ai h1
 have A:X g:=h.owx _ _ r;have q:∀k,eU g m kv k->k<w.heap.size->X k/\ow k=some (i+1):=λk d f=>by
  rcases d with d|d|d
  .subst d;exact⟨A,r⟩
  .rcases(E k d).1 with e|e
   .exact⟨h.owx _ _ e,e⟩
   .omega
  .rcases(v k d).1 with e|e
   .exact⟨h.owx _ _ e,e⟩
   .omega
 have H:∀k,eU g m kv k->∃c T,w'.heap[k]? =some (Obj.cells c T (0,0))/\MT.contains T=true:=λk d=>by
  rcases d with d|d|d
  .subst d;exact⟨_,_,hS,by decide⟩
  .obtain⟨c,p⟩:=(E k d).2;exact⟨_,_,p,by decide⟩
  .obtain⟨c,p⟩:=(v k d).2;exact⟨_,_,p,by decide⟩
 refine⟨λk=>(X k/\ow k≠some (i+1))\/eU g m kv k,λk=>if eU g m kv k then some (i+1) else if ow k=some (i+1) then none else ow k,?_,?_⟩
 .refine h.Qq i l hi R (λk f d=> ?_) (λk f ho=> ?_) (λk t y=> ?_) (λk d f=> ?_) ⟨g,pn,nv,vv,op,z,U,?_⟩
  .rcases d with d|d
   .exact d.1
   .exact(q k d f).1
  .have:¬eU g m kv k:=λd=>ho (q k d f).2;simp only[this,SI,ho]
  .have y:(if eU g m kv k then some (i+1) else if ow k=some (i+1) then none else ow k)=some t:=y;by_cases D:eU g m kv k
   .exact .inr D
   .rw[fb D] at y;by_cases ho:ow k=some (i+1)
    .rw[fN ho] at y;cases y
    .rw[fb ho] at y;exact .inl ⟨h.owx _ _ y,ho⟩
  .rcases d with⟨d,ho⟩|d
   .rcases f with f|f
    .exact absurd f ho
    .exact absurd (P k d) (by omega)
   .exact H k d
  .refine⟨?_,hS,L.imp (λk c f p=>⟨?_,p⟩) (λk c f p=>⟨?_,p⟩),N.imp (λk c f p=>⟨?_,p⟩) (λk c f p=>⟨?_,p⟩),O,G,F,J⟩
   .show(if eU g m kv g then some (i+1) else _)=_;rw[fN (.inl rfl)]
   .show(if eU g m kv k then some (i+1) else _)=_;rw[fN (.inr (.inl f))]
   .rintro(d|d|d|d)
    .exact f.1 d.1
    .subst d;exact f.1 A
    .rw[f.2] at d;cases d
    .obtain⟨c',I⟩:=(v k d).2;exact aU p I (by decide) rfl
   .show(if eU g m kv k then some (i+1) else _)=_;rw[fN (.inr (.inr f))]
   .show(if eU g m kv k then some (i+1) else _)=_;rw[fN (.inr (.inr f))]
 .refine⟨R.mono (λk e=>by rw[e];simp),λk f d ho=>.inl ⟨d,by rw[ho];simp⟩,λk f d=> ?_,λk f ho=> ?_⟩
  .rcases d with d|d
   .exact d.1
   .exact(q k d f).1
  .have:¬eU g m kv k:=λd=>by have:=(q k d f).2;rw[ho] at this;cases this
   show(if eU g m kv k then some (i+1) else if ow k=some (i+1) then none else ow k)=none;rw[fb this,ho];simp
theorem ja.rows{w:aa}{X:a9}{fr:Fr}(h:ja w X ow i g fr pn op xs n x e w')(v:V):
  ∃nv vv,w'.heap[g]? =some (Obj.cells #[.string pn,nv,vv,.pointer op] 176 (0,0))/\Rw w' 3 (λk=>ow k=some (i+1)\/w.heap.size<=k) (λk=>¬X k) nv ((fr.define n v).ns.map (Value.int .i64))/\Rw w' 81 (λk=>ow k=some (i+1)\/w.heap.size<=k) (λk=>ow k=some (i+1)\/w.heap.size<=k) vv (match dU fr.ns n with
   |some j=>xs.set j x
   |none=>xs++[x]):=by
 obtain⟨_,y,nv,vv,p,hS,hm⟩:=h;refine⟨nv,vv,hS,?_⟩;unfold Fr.define;cases hix:dU fr.ns n with
 |some j=>
  rw[hix] at hm;obtain⟨rfl,h1,h2⟩:=hm;exact⟨h1.imp (λk c b d=>⟨.inl b,d⟩) (λk c b d=>⟨b,d⟩),h2.imp (λk c b d=>⟨.inl b,d⟩) (λk c b d=>⟨.inl b,d⟩)⟩
 |none=>
  rw[hix] at hm;obtain⟨rfl,q,r,h1,h2,h3,f,l,m⟩:=hm;exact⟨Rw.Cv l (λk b=>by rw[h3] at b;cases b;exact h1),Rw.Cv m (λk b=>by rw[f] at b;cases b;exact h2)⟩
theorem iY(fr:Fr)(n:Int)(v:V)(h:fr.ns.length=fr.vs.length):(fr.define n v).ns.length=(fr.define n v).vs.length/\(fr.define n v).ns.length<=fr.ns.length+1/\(fr.define n v).out=fr.out:=by
 unfold Fr.define;cases dU fr.ns n with
 |some j=>simp[Fr.put,h]
 |none=>simp[h]
theorem yG{w:aa}{X:a9}{b:Nat}{val out:al}{top:a8}(h:RS B K w X ow mo mf M b C s val app args out top gf)(y:w.heap[M]? =some (.cells (eL b s.pc val (aD gf) app args (.pointer top) out 0 0 0 ⟨#[]⟩) 119))(n:Int)(c:dV C s 9 n≠.bad):cl 125 #[Pt M,Jn n] w (aV B K X ow w M b C (dV C s 9 n)):=by
 obtain⟨k0,k1,k2,k3,k4,k5,k6,k7,k8,k9,k10,k11⟩:=bq y;have J:=h.st;have L:=h.val;simp only[dV] at c ⊢;cases hs:s.st with
 |nil=>rw[hs] at c;exact absurd rfl c
 |cons en r=>
  rw[hs] at J c;cases hsv:s.val with
  |none=>rw[hsv] at c;exact absurd rfl c
  |some v=>
   rw[hsv] at L c;simp only[] at c ⊢;have L:VX w mo v val:=L;obtain⟨t,x,rfl⟩:=L.form;obtain⟨g,q,gf0,got,rfl,hg,_,_,_,_,hr⟩:=J;have c0:=ae hg 0;have d:=aY w M 6 (.pointer q);have z:(w.setCell ⟨M,6,none⟩ (.pointer q)).heap[M]? =some (.cells (eL b s.pc (.iface t x) (aD gf) app args (.pointer q) out 0 0 0 ⟨#[]⟩) 119):=(TH y).trans rfl;have h1:=(h.ext y d z).sy {s with st:=r} (.iface t x) app args q gf rfl rfl rfl (by have:=OV.ak (T8 y d (by decide)) (TV _) _ _ h.val;exact this) h.fr (h.ext y d z).app (hr.cG y d);have R:s.fr<s.frs.length:=h.fdm _ _ h.fr;have f:=h1.drew;have H:Gw X ow w X ow (w.setCell ⟨M,6,none⟩ (.pointer q)).drew:=h.gw d.drew;cases hfr:s.frs[s.fr]? with
   |none=>rw[hfr] at c;exact absurd rfl c
   |some fr=>
    rw[hfr] at c;simp only[] at c ⊢;by_cases hlt:fr.ns.length<1000000
    .rw[fN hlt];obtain⟨D,pn,nv,vv,op,xs,A,E⟩:=f.frs s.fr fr hfr;have U:D=gf:=by have h2:=h.fr;rw[h2] at A;cases A;rfl
     subst U;have F:(w.setCell ⟨M,6,none⟩ (.pointer q)).drew.heap[M]? =some (.cells (eL b s.pc (.iface t x) (aD D) app args (.pointer q) out 0 0 0 ⟨#[]⟩) 119):=z;have G:∀p,aB (λk=>ow k=some (s.fr+1)) (w.setCell ⟨M,6,none⟩ (.pointer q)).drew p->p.heap[M]? =some (Obj.cells (eL b s.pc (.iface t x) (aD D) app args (.pointer q) out 0 0 0 ⟨#[]⟩) 119 (0,0)):=λp W=>by
      rw[W.block M (ai F) (by rw[h.owM];simp)];exact F
     refine(BF w M g D n q t x _ k6 (ah y 6) c0 k3 k2 (ag (uk E f.owx n t x hlt)) (ag ?_)).mono ?_
     .intro e p hp;have l:=G p hp.2.1;exact⟨hp.1,by unfold Cl;rw[ae l];rfl,ah l 2⟩
     .rintro e w' ⟨p,rfl,hp,rfl⟩;have l:=G p hp.2.1;obtain⟨nv2,vv2,Q,V,Y⟩:=hp.rows v;have m:=iY fr n v E.len;have I:aC 205 (w.setCell ⟨M,6,none⟩ (.pointer q)).drew p:=KI.aT (λk hk=>f.xty k (f.owx _ _ hk)) hp.2.1 _ (by decide);have Z:eV p mo (fr.define n v).vs (match dU fr.ns n with
       |some j=>xs.set j (.iface t x)
       |none=>xs++[.iface t x]):=by
       have a1:=eV.ak I (TV _) _ _ E.vs;have a2:VX p mo v (.iface t x):=VX.ak I (TV _) _ _ (VX.ak (T8 y d.drew (by decide)) (TV _) _ _ L);unfold Fr.define;cases dU fr.ns n with
       |some j=>exact eV.set j v _ a1 a2
       |none=>exact eV.append a1 ⟨a2,trivial⟩
      obtain⟨X',ow',h2,O⟩:=f.nh s.fr D (fr.define n v) pn nv2 vv2 op _ R A hp.2.1 E.tag Q V Y Z (by rw[m.2.2];exact E.out) m.1 (by have:=m.2.1;omega);obtain⟨X2,ow2,P,hG⟩:=h2.go l (aY p M 2 (.iface 259 (.agg #[]))) {s with st:=r,val:=some .nothing,frs:=s.frs.set s.fr (fr.define n v)} (.iface 259 (.agg #[])) app args q D ((TH l).trans rfl) rfl rfl rfl (λN=>⟨rfl,N.fr,N.app,N.st⟩);exact⟨rfl,X2,ow2,P,(H.trans O).trans hG⟩
    .rw[fb hlt] at c;exact absurd rfl c
def J6(l:List au)(x:au):Int:=if l.contains x then((l.idxOf x:Nat):Int) else-1
theorem Oq{a b:au}(h:(⟨a.toArray⟩:ao)=⟨b.toArray⟩):a=b:=by
 have:=Sq (λz:ao=>z.data.toList) h;simpa using this
theorem pr(x:au):∀(l:List au) (i:Nat),Lib.idxFromS (l.map λs=>(⟨s.toArray⟩:ao)) ⟨x.toArray⟩ i=if l.contains x then((i+l.idxOf x:Nat):Int) else-1
 |[],i=>rfl
 |z::d,i=>by
  by_cases h:z=x
  .subst h;simp[Lib.idxFromS]
  .have b:¬x=z:=λe=>h e.symm;have hb:(z==x)=false:=by simp[h]
   have c:¬((⟨z.toArray⟩:ao)=⟨x.toArray⟩):=λe=>h (Oq e);rw[v6,Lib.idxFromS,pr x d (i+1)];simp only[c,SI,R5,Sb,hb,TA];have:(x==z)=false:=by simp[b]
   simp only[this,Ti];split
   .congr 1;omega
   .rfl
theorem E9{w:aa}{l:List au}(h:w.ownsRow B 9 1 u l.length (l.map bO))(x:au)(z:l.length<=1000000):
  cl 101 #[u,.string ⟨x.toArray⟩] w λe w'=>e=.returned (Jn (J6 l x))/\w'=w:=by
 have v:Rw w 9 (λ_=>True) (λ_=>True) u (l.map bO):=Rw.Cv h λ_ _=>trivial;have m:Lib.idxOfS (l.map λs=>(⟨s.toArray⟩:ao)) ⟨x.toArray⟩=J6 l x:=by
  unfold Lib.idxOfS J6;rw[pr,C4]
 rcases v with⟨rfl,d⟩|⟨g,b,f,p,rfl,h2,q,h3,r,y⟩
 .have:l=[]:=by simpa using d
  subst this;have:=slices_Index_string_empty none 0 ⟨x.toArray⟩ w;rw[<-m];exact this
 .simp only[ta] at *;have:=slices_Index_string g b l.length f (l.map λs=>(⟨s.toArray⟩:ao)) ⟨x.toArray⟩ w (by simp) (by omega) (λj c=>by
   have c:j<l.length:=by simpa using c
   unfold Cl;rw[ae h3,<-C1];have d:((p.toList.drop b).take l.length)[j]? =some (.string ((l.map λs=>(⟨s.toArray⟩:ao)).getD j ByteArray.empty)):=by rw[r];simp[c,bO]
   rw[Bk,fN c,Sn] at d;exact d)
  rw[<-m];rw[s9 (by simp)] at this;exact this
def tJ(S k:Nat):Nat:=if k<12 then S+(3 *k+2) else S+(24+k)
theorem Is(M S k:Nat)(c:k<14):∃b,(DH S M)[if k<12 then 3 *k+2 else 24+k]? =some (Obj.cells #[bO (aP.getD k []),Jn (eD k:Nat),b] 220 (0,0))/\
  ((k=12/\b=.func (.func 175) #[aD M] #[])\/(k=13/\b=.func (.func 176) #[aD M] #[])\/(k<12/\∃T,MT.contains T=false/\b=.func (.func (Ro.getD k 0)) #[] #[aD (S+3 *k),aD (S+(3 *k+1))]/\(DH S M)[3 *k]? =some (Obj.cells #[aD M] 73 (0,0))/\(DH S M)[3 *k+1]? =some (Obj.cells #[.func (.func (Rn.getD k 0)) #[aD M] #[]] T (0,0)))):=by
 rcases k with _|_|_|_|_|_|_|_|_|_|_|_|_|_|k
 iterate 12 exact⟨_,rfl,.inr (.inr ⟨by decide,_,by decide,rfl,rfl,rfl⟩)⟩
 .exact⟨_,rfl,.inl ⟨rfl,rfl⟩⟩
 .exact⟨_,rfl,.inr (.inl ⟨rfl,rfl⟩)⟩
 .omega
theorem Jo(S k:Nat):tJ S k=S+(if k<12 then 3 *k+2 else 24+k):=by unfold tJ;split<;>rfl
def AX(K S:Nat):Nat->Option Nat:=λi=>if i%2=0 then(if i/2<14 then some (tJ S (i/2)) else none) else jj K i
theorem E0{w:aa}{X:a9}(K M:Nat)(C:Cd)(w0:aa)(k:Nat)(f:k<14)(hb:Below (fw w0 (DH w0.heap.size M)).heap.size (fw w0 (DH w0.heap.size M)) w\/KI (fw w0 (DH w0.heap.size M)) w):Oa w X (AX K w0.heap.size) mf M C (2 *k) (.first k):=by
 have b:KI (fw w0 (DH w0.heap.size M)) w:=hb.elim KI.aj id;obtain⟨h,h1,h2⟩:=Is M w0.heap.size k f;have c:=ip _ w0 _ _ h1;rw[<-Jo] at c;refine⟨tJ w0.heap.size k,⟨(aP.getD k []).toArray⟩,h,?_,b _ (by decide) _ _ c,?_⟩
 .unfold AX;rw[fN (by omega),show 2 *k/2=k by omega,fN f]
 .rcases h2 with h2|h2|⟨h3,T,d,j,l,m⟩
  .exact .inl h2
  .exact .inr (.inl h2)
  .exact .inr (.inr ⟨h3,_,_,T,d,j,b _ (by decide) _ _ (ip _ w0 _ _ l),b _ d _ _ (ip _ w0 _ _ m)⟩)
structure tc(S g:Nat)(mo:Nat->Option Nat)(fr:Fr)(w:aa)(a b:al)(xs:a7):Prop where
 hS:w.heap[g]? =some (Obj.cells #[.string ⟨#[116,104,101,32,112,114,111,103,114,97,109]⟩,a,b,.pointer none] 176 (0,0))
 nr:Rw w 3 (λk=>S<=k) (λ_=>False) a (fr.ns.map (Value.int .i64))
 vr:Rw w 81 (λk=>S<=k) (λk=>S<=k) b xs
 vs:∀W,eV W mo fr.vs xs
 out:fr.out=none
 len:fr.ns.length=fr.vs.length
def MI(S g:Nat):Nat->Option Nat:=λk=>if k=g\/S<=k then some 1 else none
theorem tc.fr{fr:Fr}{w:aa}(h:tc S g mo fr w nv vv xs)(f:fr.ns.length<=1000000):GC w (λ_=>True) (MI S g) mo (λ_=>none) 0 fr g ⟨#[116,104,101,32,112,114,111,103,114,97,109]⟩ nv vv none xs:=
 ⟨by simp[MI],h.hS,h.nr.imp (λb c hb d=>⟨by simp[MI,hb],d⟩) (λ_ _ h _=>h.elim),h.vr.imp (λb c hb d=>⟨by simp[MI,hb],d⟩) (λ_ _ h _=>by simp[MI,h] at *;simp_all),h.vs w,by rw[h.out],h.len,f⟩
theorem tc.define{fr:Fr}{w:aa}(h:tc S g mo fr w nv vv xs)(D:S<=w.heap.size)(n:Int)(v:V)(x:al)(H:∀W,VX W mo v x)(e:bo)(hp:ja w (λ_=>True) (MI S g) 0 g fr ⟨#[116,104,101,32,112,114,111,103,114,97,109]⟩ none xs n x e w'):aB (λk=>k=g\/S<=k) w w'/\∃m p y,tc S g mo (fr.define n v) w' m p y:=by
 obtain⟨m,p,q,F,G⟩:=hp.rows v;have r:aB (λk=>k=g\/S<=k) w w':=hp.2.1.mono λk b=>by
  unfold MI at b;split at b
  .assumption
  .cases b
 have f:∀(T:bi) (k:Nat) (c:bc),T≠176->w'.heap[k]? =some (Obj.cells c T (0,0))->(MI S g k=some (0+1)\/w.heap.size<=k)->S<=k:=λT k c E d ho=>by
  rcases ho with ho|ho
  .unfold MI at ho;split at ho
   .rename_i b
    rcases b with b|b
    .subst b;rw[q] at d;cases d;exact absurd rfl E
    .exact b
   .cases ho
  .omega
 have l:=iY fr n v h.len;refine⟨r,m,p,_,q,F.imp (λk c b d=>⟨f _ k c (by decide) d b,d⟩) (λk c b d=>absurd trivial b),G.imp (λk c b d=>⟨f _ k c (by decide) d b,d⟩) (λk c b d=>⟨f _ k c (by decide) d b,d⟩),λW=> ?_,by rw[l.2.2,h.out],l.1⟩;have z:=h.vs W;have A:=H W;unfold Fr.define;cases dU fr.ns n with
 |some j=>exact eV.set j v _ z A
 |none=>exact eV.append z ⟨A,trivial⟩
def oG(C:Cd)(k:Nat)(f:Fr):Fr:=if C.ns.contains (aP.getD k []) then f.define (C.ns.idxOf (aP.getD k []):Nat) (.proc (2 *k)) else f
def dQ(C:Cd):Nat->Fr
 |0=>⟨[],[],none⟩
 |k+1=>oG C k (dQ C k)
theorem Cx(C:Cd):dQ C 14=oH C 0 aP ⟨[],[],none⟩:=rfl
theorem me(C:Cd):∀k,(dQ C k).ns.length=(dQ C k).vs.length/\(dQ C k).ns.length<=k
 |0=>⟨rfl,ew _⟩
 |k+1=>by
  have h:=me C k;unfold dQ oG;split
  .have:=iY (dQ C k) (C.ns.idxOf (aP.getD k []):Nat) (.proc (2 *k)) h.1;exact⟨this.1,by omega⟩
  .exact⟨h.1,by omega⟩
theorem OH(S M k:Nat)(b:k<14):∃c,(DH S M)[38]? =some (Obj.cells c 216 (0,0))/\c[k]? =some (aD (tJ S k)):=by
 refine⟨_,rfl,?_⟩;rcases k with _|_|_|_|_|_|_|_|_|_|_|_|_|_|k
 iterate 14 rfl
 omega
theorem lK{w:aa}(h:w'.heap[g]? =w.heap[g]?):w'.cell? (dq g o)=w.cell? (dq g o):=by
 unfold World.cell?;rw[h]
theorem TJ(w:aa)(o:Obj):(w.alloc o).heap.size=w.heap.size+1:=by simp
def l9(w:aa)(M:Nat):aa:=fw (w.alloc (.cells #[.string ⟨#[116,104,101,32,112,114,111,103,114,97,109]⟩,.slice none 0 0,.slice none 0 0,.pointer none] 176)) (DH (w.heap.size+1) M)
theorem oF(w:aa)(M:Nat):(l9 w M).heap.size=w.heap.size+40:=by
 unfold l9;rw[o7];simp[DH]
theorem sk(w:aa)(M:Nat):Below w.heap.size w (l9 w M):=by
 unfold l9;refine((fL _ w).alloc (ew _) _).trans ((fB _ _).mono ?_);simp
theorem Jj(w:aa)(M i:Nat)(o:Obj)(h:(DH (w.heap.size+1) M)[i]? =some o):(l9 w M).heap[w.heap.size+1+i]? =some o:=by
 unfold l9;rw[show w.heap.size+1=(w.alloc (.cells #[.string ⟨#[116,104,101,32,112,114,111,103,114,97,109]⟩,.slice none 0 0,.slice none 0 0,.pointer none] 176)).heap.size by simp] at *;exact ip _ _ _ _ h
def mB(w:aa)(K M:Nat)(C:Cd)(e:bo)(w':aa):Prop:=e=.returned (Pt w.heap.size)/\aB (λk=>k=w.heap.size\/w.heap.size+40<=k) (l9 w M) w'/\∃a b xs,tc (w.heap.size+40) w.heap.size (AX K (w.heap.size+1)) (dQ C 14) w' a b xs
theorem Fo(K S k:Nat)(b:k<14)(W:aa):VX W (AX K S) (.proc (2 *k)) (.iface 216 (aD (tJ S k))):=by
 refine⟨by omega,tJ S k,?_,rfl⟩;unfold AX;rw[fN (by omega),show 2 *k/2=k by omega,fN b]
theorem wW(w:aa)(K M b:Nat)(C:Cd)(u2:al)(h0:M<w.heap.size)(h2:b<w.heap.size)(m0:Cl w M 0 (Pt b))(b2:Cl w b 2 u2)(hr:w.ownsRow 0 9 1 u2 C.ns.length (C.ns.map bO))(hl:C.ns.length<=1000000):
  cl 61 #[Pt M] w (mB w K M C):=by
 have HR:=ag hr;obtain⟨G,cap2,rfl,_,_,_⟩:=ay hr;obtain⟨E,f⟩:∃E,E=l9 w M:=⟨_,rfl⟩;have h8:E.heap.size=w.heap.size+40:=by rw[f];exact oF w M
 have X:=ag (show Below w.heap.size w E from by rw[f];exact sk w M);have y:=ag (show∀i o,(DH (w.heap.size+1) M)[i]? =some o->E.heap[w.heap.size+1+i]? =some o from by rw[f];exact Jj w M);have Y:Hid (tc (w.heap.size+40) w.heap.size (AX K (w.heap.size+1)) (dQ C 0) E (.slice none 0 0) (.slice none 0 0) []):=by
  refine⟨?_,.inl ⟨rfl,rfl⟩,.inl ⟨rfl,rfl⟩,λ_=>trivial,rfl,rfl⟩;rw[f];unfold l9;rw[(fB _ _).block w.heap.size (by simp)];exact n6
 have HF:=ag (E1 (w.alloc (.cells #[.string ⟨#[116,104,101,32,112,114,111,103,114,97,109]⟩,.slice none 0 0,.slice none 0 0,.pointer none] 176)) M);have J:=ag f;clear hr f;go_enter func61,ntmps61;go_wp2_with fail;refine HF.out.mono ?_;rintro e w1 ⟨rfl,U⟩;have h5:w1=E:=U.trans ((Sq (λn=>fw _ (DH n M)) (TJ w _)).trans J.out.symm);clear U;subst h5;clear HF;rw[TJ];go_wp2
 go_loopw [12] (λi wr=>∃k:Nat,k<=14/\i=Jn k/\aB (λj=>j=w.heap.size\/w.heap.size+40<=j) w1 wr/\∃nv vv xs,tc (w.heap.size+40) w.heap.size (AX K (w.heap.size+1)) (dQ C k) wr nv vv xs) (λi _=>14-(intOf i).toNat)
 case atStart=>exact⟨0,by omega,rfl,TU _ _,_,_,_,Y.out⟩
 case round=>
  obtain⟨k,hk,rfl,z,nv,vv,xs,ho⟩:=hrel;have Z:=ag z;have d:=ag ho;have h6:=z.size;by_cases hlt:k<14
  .obtain⟨c,L,N⟩:=OH (w.heap.size+1) M k hlt;obtain⟨fv,m,_⟩:=Is M (w.heap.size+1) k hlt;have m:=y.out _ _ m;rw[<-Jo] at m;have Q:tJ (w.heap.size+1) k<w.heap.size+40:=by have:=ai m;omega
   have h4:w.heap.size<tJ (w.heap.size+1) k:=by unfold tJ;split<;>omega
   have r:∀j,j<w.heap.size+40->j≠w.heap.size->wr.heap[j]? =w1.heap[j]?:=λj hj hn=>z.block j (by omega) (by omega);have d1:wr.cell? ⟨w.heap.size+1+38,k,none⟩=some (aD (tJ (w.heap.size+1) k)):=by rw[ae ((r _ (by omega) (by omega)).trans (y.out _ _ L))];exact N
   have d2:wr.cell? ⟨tJ (w.heap.size+1) k,0,none⟩=some (.string ⟨(aP.getD k []).toArray⟩):=by rw[ae ((r _ Q (by omega)).trans m)];rfl
   have d3:wr.cell? ⟨M,0,none⟩=some (.pointer (eb b)):=by rw[lK (z.block M (by omega) (by omega)),X.out.cell (p:=⟨M,0,none⟩) h0];exact m0
   have d4:wr.cell? ⟨b,2,none⟩=some (.slice G C.ns.length cap2):=by rw[lK (z.block b (by omega) (by omega)),X.out.cell (p:=⟨b,2,none⟩) h2];exact b2
   have R:wr.ownsRow 0 9 1 (.slice G C.ns.length cap2) C.ns.length (C.ns.map bO):=by
    have h1:=aq HR.out (TW (λ_=>False) X.out) (λ_ _ h=>h);refine aq h1 z (λj hj V=> ?_);have:=(ar HR.out hj).2;omega
   have q:=ag (E9 (w:=wr.drew) R (aP.getD k []) hl);obtain⟨P,hP⟩:∃P,P=tJ (w.heap.size+1) k:=⟨_,rfl⟩;obtain⟨x,V⟩:∃x,x=aP.getD k []:=⟨_,rfl⟩;rw[<-hP] at d1 d2 Q h4;rw[<-V] at d2;rw[<-V] at q;unfold aD at d1;have HX:=ag V;have HP:=ag hP;have h9:w.heap.size<wr.heap.size:=by omega
   clear L N m r R V hP z ho b2 m0;have O:=(me C k).2;cases hco:C.ns.contains x with
   |true=>
    have A:Hid (cl 101 #[.slice G C.ns.length cap2,.string ⟨x.toArray⟩] wr.drew λe w'=>e=.returned (Jn ((C.ns.idxOf x:Nat):Int))/\w'=wr.drew):=by
     have:=q.out;unfold J6 at this;rw[hco,fN rfl] at this;exact this
    have v:Hid (tc (w.heap.size+40) w.heap.size (AX K (w.heap.size+1)) (dQ C k) wr.drew nv vv xs):=⟨d.out.hS,d.out.nr,d.out.vr,d.out.vs,d.out.out,d.out.len⟩;have H:=ag (uk (v.out.fr (by omega)) (λ_ _ _=>trivial) ((C.ns.idxOf x:Nat):Int) 216 (Pt P) (by omega));have D:Hid (dQ C (k+1)=(dQ C k).define (C.ns.idxOf x:Nat) (.proc (2 *k))):=by
     show oG C k (dQ C k)=_;unfold oG;rw[<-HX.out,hco,fN rfl]
    have h7:(C.ns.idxOf x)<=1000000:=by have:=List.idxOf_le_length (a:=x) (l:=C.ns);omega
    clear hco q O;go_wp2_with fail;go_region_held3 (λF=>F.cell? ⟨M,0,none⟩=some (Pt b)/\F.cell? ⟨b,2,none⟩=some (.slice G C.ns.length cap2)/\F.cell? ⟨P,0,none⟩=some (.string ⟨x.toArray⟩)) (go_keep) (first|(go_at_call 101;refine A.out.mono ?_;rintro e w' ⟨rfl,rfl⟩));go_wp2_with fail;refine H.out.mono ?_;intro e w2 hp;have he:=hp.1;subst he;have I:=ag (v.out.define (by show _<=wr.heap.size;omega) _ (.proc (2 *k)) _ (λW=>by have:=Fo K (w.heap.size+1) k hlt W;rw[<-HP.out] at this;exact this) _ hp);clear hp H;go_wp2;go_roundw
    case rel=>exact⟨k+1,by omega,rfl,Z.out.drew.trans I.out.1 (λj _ h=>h),by rw[D.out];exact I.out.2⟩
    case measure=>simp[intOf];omega
   |false=>
    have A:Hid (cl 101 #[.slice G C.ns.length cap2,.string ⟨x.toArray⟩] wr.drew λe w'=>e=.returned (Jn (-1))/\w'=wr.drew):=by
     have:=q.out;unfold J6 at this;rw[hco,fb (by decide)] at this;exact this
    have v:Hid (tc (w.heap.size+40) w.heap.size (AX K (w.heap.size+1)) (dQ C k) wr.drew nv vv xs):=⟨d.out.hS,d.out.nr,d.out.vr,d.out.vs,d.out.out,d.out.len⟩;have D:Hid (dQ C (k+1)=dQ C k):=by
     show oG C k (dQ C k)=_;unfold oG;rw[<-HX.out,hco,fb (by decide)]
    clear hco q O;go_wp2_with fail;go_region_held3 (λF=>F.cell? ⟨M,0,none⟩=some (Pt b)/\F.cell? ⟨b,2,none⟩=some (.slice G C.ns.length cap2)/\F.cell? ⟨P,0,none⟩=some (.string ⟨x.toArray⟩)) (go_keep) (first|(go_at_call 101;refine A.out.mono ?_;rintro e w' ⟨rfl,rfl⟩));go_wp2;go_roundw
    case rel=>exact⟨k+1,by omega,rfl,Z.out.drew,nv,vv,xs,by rw[D.out];exact v.out⟩
    case measure=>simp[intOf];omega
  .have h3:k=14:=by omega
   subst h3;clear z ho;go_wp2;go_ret;exact⟨rfl,by rw[<-J.out];exact Z.out,nv,vv,xs,d.out⟩
end Go.Proofs.YtlobegpjenabaaaGreatDoor
