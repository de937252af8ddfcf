import Derived.Test.YtlobegpjenabaaaGreatDoorT24
namespace Go.Proofs.YtlobegpjenabaaaGreatDoor
open Go.RowKit Tryz
set_option linter.unusedVariables false
set_option maxRecDepth 100000
set_option maxHeartbeats 4000000
variable {w' w1 W:aa} {Y Y' Q:a9} {mo mo' mf mf' ow ow':Nat->Option Nat} {fx:List X} {i B M k n made t g:Nat} {m:Rm} {x x':XS} {T:bi} {e:X} {z:BS} {vs:List V} {f:XF} {u:Sl} {ns:List au} {frs:List XF} {s:au} {vcs bs cs:List Vc}
def NI(w:aa)(Y:a9)(mo mf:Nat->Option Nat)(fx:List X)(c:tY):XP->Prop
 |.first _=>False
 |.clo xs a f=>NR w (λk=>¬Y k) c.names xs/\(xs=[]->c.names=ef)/\FP mf f c.fr/\∃n bs,n<=40/\LR w Y c.body bs/\bs.length<=1000/\XB w mo n bs a
 |.kont ch fs=>c.fr=none/\iU w Y mo mf c.ch ch/\∃j:Nat,c.form=j/\j<fx.length/\fs=fx.drop (j+1)
def Gn(w:aa)(Y:a9)(w':aa)(a:a9):Prop:=∀b,b<w.heap.size->¬Y b->¬a b/\w'.heap[b]? =w.heap[b]?
theorem NI.ak{w:aa}{c:tY}(k:KR w w')(hm:Le mo mo')(hf:Le mf mf')(a:Gn w Y w' Y'):∀{p:XP},NI w Y mo mf fx c p->NI w' Y' mo' mf' fx c p
 |.first _,h=>h
 |.clo _ _ _,⟨h1,b,h2,n,bs,h3,d,j,l⟩=>⟨h1.ak a,b,h2.ak hf,n,bs,h3,d.ak a,j,l.ak k hm⟩
 |.kont _ _,⟨h1,h2,h3⟩=>⟨h1,iU.ak k hm hf a _ _ h2,h3⟩
def Pq(w:aa)(ow mo mf:Nat->Option Nat)(i:Nat)(fr:XF):Prop:=∃g f vcs,mf i=some g/\ow g=some (i+1)/\sX w 0 g f fr.ns vcs/\fU w mo fr.vs vcs/\(∀k,f.names.v.ownBlock=some k->ow k=some (i+1))/\(∀k,f.vals.v.ownBlock=some k->ow k=some (i+1))/\Pu mf i fr.out f.up
theorem Pu.ak(hf:Le mf mf'):∀{o:Option Nat} {a:a8},Pu mf i o a->Pu mf' i o a
 |none,_,h=>h
 |some _,_,h=>⟨h.1,h.2.ak hf⟩
theorem Pq.ak{w:aa}{fr:XF}(k:KR w w')(hm:Le mo mo')(hf:Le mf mf')(ho:∀b,ow b=some (i+1)->ow' b=some (i+1)/\w'.heap[b]? =w.heap[b]?)(h:Pq w ow mo mf i fr):Pq w' ow' mo' mf' i fr:=by
 obtain⟨g,f,vcs,h1,h2,h3,d,a,c,j⟩:=h;exact⟨g,f,vcs,hf _ _ h1,(ho g h2).1,⟨(ho g h2).2.trans h3.fc,dK h3.nr (λb hb=>(ho b (a b hb)).2),dK h3.vr (λb hb=>(ho b (c b hb)).2),h3.ln⟩,fU.ak k hm _ _ d,λb hb=>(ho b (a b hb)).1,λb hb=>(ho b (c b hb)).1,j.ak hf⟩
structure Mk(B:Nat)(w:aa)(Y:a9)(ow:Nat->Option Nat)(M:Nat):Prop where
 owx:∀k t,ow k=some t->Y k
 xty:mu w B Y
 owM:ow M=some 0
theorem Mk.lt{w:aa}(h:Mk B w Y ow M)(a:Y k):k<w.heap.size:=by
 obtain⟨_,c,T,h1,_⟩:=h.xty k a;exact ai h1
theorem Mk.ki{w:aa}(h:Mk B w Y ow M)(a:Gw Y ow w Y' ow' w'):KI w w':=RS.Mg (K:=0) h.xty h.owx a
theorem KI.kr{w:aa}(h:KI w w'):KR w w':=⟨h _ (by decide),h _ (by decide),h _ (by decide)⟩
theorem Mk.sW{w:aa}(h:Mk B w Y ow M)(a:Gw Y ow w Y' ow' w'):Gn w Y w' Y':=λb hb c=>⟨λe=>c (a.x2 b hb e),a.upd.block b hb λe=>by
 cases ho:ow b with
 |none=>exact e ho
 |some t=>exact c (h.owx b t ho)⟩
theorem Mk.Gh{w:aa}(h:Mk B w Y ow M)(hB:B<=w.heap.size)(t:Nat)(K:a9)(r:aB (λk=>k=M\/ow k=some t) w w')(l:∀k,K k->(ow k=some t\/w.heap.size<=k)/\∃c T,w'.heap[k]? =some (Obj.cells c T (0,0))/\MT.contains T=true)(y:∃c,w'.heap[M]? =some (Obj.cells c 168 (0,0)))(p:t=0->K M):
  ∃Y' ow',Mk B w' Y' ow' M/\Gw Y ow w Y' ow' w'/\(∀k,K k->ow' k=some t)/\∀k j,ow k=some j->j≠t->ow' k=some j:=by
 classical
 have o:∀k,K k->k<w.heap.size->ow k=some t:=λk a C=>by
  rcases(l k a).1 with e|e
  .exact e
  .omega
 refine⟨λk=>(Y k/\ow k≠some t)\/K k,λk=>if K k then some t else if ow k=some t then none else ow k,⟨λk j b=> ?_,λk a=> ?_,?_⟩,⟨r.mono λk a=> ?_,λk a d ho=>.inl ⟨d,by rw[ho];simp⟩,λk a d=> ?_,λk a ho=> ?_⟩,λk a=>fN a,λk j a b=> ?_⟩
 .split at b
  .exact .inr (by assumption)
  .split at b
   .cases b
   .exact .inl ⟨h.owx _ _ b,by assumption⟩
 .rcases a with⟨a,ho⟩|a
  .obtain⟨v,c,T,h1,h2⟩:=h.xty k a;refine⟨v,?_⟩;by_cases e:k=M
   .subst e;obtain⟨c,A⟩:=y;exact⟨c,_,A,by decide⟩
   .exact⟨c,T,by rw[r.block k (ai h1) (λq=>q.elim e ho)];exact h1,h2⟩
  .refine⟨?_,(l k a).2⟩;rcases(l k a).1 with e|e
   .exact(h.xty k (h.owx _ _ e)).1
   .omega
 .split
  .rename_i hm
   rcases(l M hm).1 with e|e
   .rw[<-e];exact h.owM
   .exact absurd (h.lt (h.owx _ _ h.owM)) (by omega)
  .rename_i hm
   rw[fb (λe=>by rw[h.owM] at e;injection e with e;exact hm (p e.symm))];exact h.owM
 .rcases a with e|e
  .subst e;rw[h.owM];simp
  .rw[e];simp
 .rcases d with d|d
  .exact d.1
  .exact h.owx _ _ (o k d a)
 .rw[fb (λe=>by rw[o k e a] at ho;cases ho),ho];simp
 .show(if K k then some t else if ow k=some t then none else ow k)=some j;split
  .rename_i hm
   rcases(l k hm).1 with e|e
   .rw[a] at e;exact absurd (pb e) b
   .exact absurd (h.lt (h.owx _ _ a)) (by omega)
  .rw[fb (λe=>by rw[a] at e;exact b (pb e))];exact a
theorem Mk.M3{w:aa}(h:Mk B w Y ow M)(a:aB (λk=>k=M) w w')(d:∃c,w'.heap[M]? =some (Obj.cells c 168 (0,0))):Mk B w' Y ow M/\Gw Y ow w Y ow w':=by
 refine⟨⟨h.owx,λk l=> ?_,h.owM⟩,⟨a.mono λk e=>by subst e;rw[h.owM];simp,λ_ _ h _=>h,λ_ _ h=>h,λ_ _ h=>h⟩⟩;obtain⟨b,c,T,h1,h2⟩:=h.xty k l;refine⟨b,?_⟩;by_cases e:k=M
 .subst e;obtain⟨c,j⟩:=d;exact⟨c,_,j,by decide⟩
 .exact⟨c,T,by rw[a.block k (ai h1) e];exact h1,h2⟩
def rU:Option V->au
 |some v=>(bK v).take 100
 |none=>[]
structure RC(B:Nat)(w:aa)(Y:a9)(ow mo mf:Nat->Option Nat)(M:Nat)(fx:List X)(m:Rm)(x:XS):Prop where
 mk2:Mk B w Y ow M
 hB:B<=w.heap.size
 fo:∃n cs,n<=40/\LR w Y m.fo cs/\cs.length<=1000/\XL w mo n cs fx
 ch:iU w Y mo mf m.ch x.ch
 fr:∀i f,x.frs[i]? =some f->Pq w ow mo mf i f
 ob:∀i p,14<=i->x.obs[i]? =some (some p)->∃g c,mo (2 *i)=some g/\b9 w g c/\NI w Y mo mf fx c p
 o1:14<=x.obs.length/\∀i,i<14->x.obs[i]? =some (some (.first i))
 ou:lC w 0 ow m.out.v x.out
 la:m.last=⟨(rU x.last).toArray⟩
 st:m.st=0/\m.er=0
 gl:FP mf 0 m.gl
 mlt:∀i g,mo i=some g->g<w.heap.size
 mdm:∀i g,mo (2 *i)=some g->14<=i/\i<x.obs.length
 inj:∀i j g,mo i=some g->mo j=some g->i=j
 fdm:∀i g,mf i=some g->i<x.frs.length
theorem RC.go{w:aa}(h:RC B w Y ow mo mf M fx m x)(a:KR w w')(J:Gn w Y w' Y')(I:w.heap.size<=w'.heap.size)(P:Mk B w' Y' ow' M)(d:Le mo mo')(o:Le mf mf')(l:Rm)(x':XS)(hm:l.fo=m.fo/\l.gl=m.gl/\l.st=0/\l.er=0)(A:∀i f,x'.frs[i]? =some f->(x.frs[i]? =some f/\∀b,ow b=some (i+1)->ow' b=some (i+1)/\w'.heap[b]? =w.heap[b]?)\/Pq w' ow' mo' mf' i f)(G:∀i p,14<=i->x'.obs[i]? =some (some p)->x.obs[i]? =some (some p)\/∃g c,mo' (2 *i)=some g/\b9 w' g c/\NI w' Y' mo' mf' fx c p)(q:∀i,i<x.obs.length->x'.obs[i]? =x.obs[i]?)(H:lC w' 0 ow' l.out.v x'.out)(r:iU w' Y' mo' mf' l.ch x'.ch)(D:l.last=⟨(rU x'.last).toArray⟩)(F:∀i g,mo' i=some g->g<w'.heap.size)(E:∀i g,mo' (2 *i)=some g->14<=i/\i<x'.obs.length)(C:∀i j g,mo' i=some g->mo' j=some g->i=j)(y:∀i g,mf' i=some g->i<x'.frs.length):RC B w' Y' ow' mo' mf' M fx l x':=by
 obtain⟨n,cs,K,L,N,O⟩:=h.fo;refine⟨P,ku h.hB I,⟨n,cs,K,by rw[hm.1];exact L.ak J,N,O.ak a d⟩,r,λi f hi=> ?_,λi p hi hp=> ?_,⟨?_,λi hi=> ?_⟩,H,D,hm.2.2,by rw[hm.2.1];exact h.gl.ak o,F,E,C,y⟩
 .rcases A i f hi with⟨h1,h2⟩|h1
  .exact(h.fr i f h1).ak a d o h2
  .exact h1
 .rcases G i p hi hp with h1|h1
  .obtain⟨g,c,R,S,U⟩:=h.ob i p hi h1;exact⟨g,c,d _ _ R,a.proc _ _ S,U.ak a d o J⟩
  .exact h1
 .have h1:=h.o1.1;have h2:=q 13 (by omega);rw[h.o1.2 13 (by omega)] at h2;have:=(ke.1 h2).1;omega
 .rw[q i (by have:=h.o1.1;omega)];exact h.o1.2 i hi
theorem mg{w:aa}(a:aI w M m){b:Nat}{c:bc}(h:w.heap[b]? =some (.cells c T))(d:T≠168):b≠M:=bB h a d
theorem RC.Ji{w:aa}(h:RC B w Y ow mo mf M fx m x)(d:aI w M m)(j:aB (λk=>k=M) w w'):lC w' 0 ow m.out.v x.out:=h.ou.ak λb c hb a=>⟨hb,by rw[j.block b (ai a) (mg d a (by decide))];exact a⟩
theorem RC.M3{w:aa}(h:RC B w Y ow mo mf M fx m x)(l:aI w M m)(j:aB (λk=>k=M) w w')(a:Rm)(y:aI w' M a)(x':XS)(hm:a.fo=m.fo/\a.gl=m.gl/\a.st=0/\a.er=0)(r:a.out=m.out)(c:x'.frs=x.frs/\x'.obs=x.obs/\x'.out=x.out)(o:iU w' Y mo mf a.ch x'.ch)(q:a.last=⟨(rU x'.last).toArray⟩):RC B w' Y ow mo mf M fx a x'/\Gw Y ow w Y ow w':=by
 obtain⟨A,d⟩:=h.mk2.M3 j ⟨_,y⟩;have v:∀b i,ow b=some (i+1)->b≠M:=λb i hb e=>by subst e;rw[h.mk2.owM] at hb;cases hb
 refine⟨h.go (h.mk2.ki d).kr (h.mk2.sW d) j.size A (TV _) (TV _) a x' hm (λi f hi=>.inl ⟨by rw[<-c.1];exact hi,λb hb=>⟨hb,j.block b (h.mk2.lt (h.mk2.owx b _ hb)) (v b i hb)⟩⟩) (λi p _ hp=>.inl (by rw[<-c.2.1];exact hp)) (λi _=>by rw[c.2.1]) ?_ o q (λi g d=>gr (h.mlt i g d) j.size) (by rw[c.2.1];exact h.mdm) h.inj (by rw[c.1];exact h.fdm),d⟩;rw[r,c.2.2];exact h.Ji l j
theorem RC.obj{w:aa}(h:RC B w Y ow mo mf M fx m x)(D:aI w M m)(C:aB (λk=>k=M) w w')(d:Rm)(L:aI w' M d)(x':XS)(hm:d.fo=m.fo/\d.gl=m.gl/\d.st=0/\d.er=0)(I:d.out=m.out)(g:Nat)(P:w.heap.size<=g)(G:g<w'.heap.size)(p:Option XP)(A:x'.frs=x.frs/\x'.obs=x.obs++[p]/\x'.out=x.out)(hp:∀q,p=some q->∃c,b9 w' g c/\NI w' Y (gU mo (2 *x.obs.length) g) mf fx c q)(E:iU w' Y (gU mo (2 *x.obs.length) g) mf d.ch x'.ch)(H:d.last=⟨(rU x'.last).toArray⟩):RC B w' Y ow (gU mo (2 *x.obs.length) g) mf M fx d x'/\Gw Y ow w Y ow w'/\Le mo (gU mo (2 *x.obs.length) g):=by
 obtain⟨N,r⟩:=h.mk2.M3 C ⟨_,L⟩;have J:∀b i,ow b=some (i+1)->b≠M:=λb i hb e=>by subst e;rw[h.mk2.owM] at hb;cases hb
 have O:mo (2 *x.obs.length)=none:=by
  cases e:mo (2 *x.obs.length) with
  |none=>rfl
  |some y=>exact absurd (h.mdm _ _ e).2 (by omega)
 have K:=fS mo _ g O;have o:∀i,mo i≠some g:=λi e=>by have:=h.mlt i g e;omega
 refine⟨h.go (h.mk2.ki r).kr (h.mk2.sW r) C.size N K (TV _) d x' hm (λi f hi=>.inl ⟨by rw[<-A.1];exact hi,λb hb=>⟨hb,C.block b (h.mk2.lt (h.mk2.owx b _ hb)) (J b i hb)⟩⟩) (λi q hi v=> ?_) (λi hi=>by rw[A.2.1,o5 hi]) ?_ E H (λi y a=> ?_) (λi y a=> ?_) (λi j y hi l=> ?_) (by rw[A.1];exact h.fdm),r,K⟩
 .rw[A.2.1] at v;rcases sb i x.obs.length with hlt|F
  .rw[o5 hlt] at v;exact .inl v
  .rw[s7 F] at v;have l:i=x.obs.length:=by have:=cy v;simp at this;omega
   subst l;rw[SQ] at v;obtain⟨c,h1,h2⟩:=hp q (by simpa using v);exact .inr ⟨g,c,ey _ _ _,h1,h2⟩
 .rw[I,A.2.2];exact h.Ji D C
 .unfold gU at a;split at a
  .cases a;exact G
  .exact gr (h.mlt i y a) C.size
 .rw[A.2.1,ga,Ix];unfold gU at a;split at a
  .have:=h.o1.1;omega
  .have:=h.mdm i y a;omega
 .unfold gU at hi l;split at hi
  .split at l
   .omega
   .cases hi;exact absurd l (o j)
  .split at l
   .cases l;exact absurd hi (o i)
   .exact h.inj i j y hi l
theorem RC.Gh{w:aa}(h:RC B w Y ow mo mf M fx m x)(t:Nat)(K:a9)(o:aB (λk=>k=M\/ow k=some t) w w')(J:∀k,K k->(ow k=some t\/w.heap.size<=k)/\∃c T,w'.heap[k]? =some (Obj.cells c T (0,0))/\MT.contains T=true)(a:Rm)(L:aI w' M a)(q:t=0->K M)(mf':Nat->Option Nat)(E:Le mf mf')(x':XS)(hm:a.fo=m.fo/\a.gl=m.gl/\a.st=0/\a.er=0)(j:x'.obs=x.obs)(A:∀ow':Nat->Option Nat,(∀k,K k->ow' k=some t)->KR w w'->∀i f,x'.frs[i]? =some f->(x.frs[i]? =some f/\i+1≠t)\/Pq w' ow' mo mf' i f)(F:∀ow':Nat->Option Nat,(∀k,K k->ow' k=some t)->(∀k G,ow k=some G->G≠t->ow' k=some G)->lC w' 0 ow' a.out.v x'.out)(r:∀Y',KR w w'->Gn w Y w' Y'->iU w' Y' mo mf' a.ch x'.ch)(D:a.last=⟨(rU x'.last).toArray⟩)(y:∀i g,mf' i=some g->i<x'.frs.length):
  ∃Y' ow',RC B w' Y' ow' mo mf' M fx a x'/\Gw Y ow w Y' ow' w':=by
 obtain⟨Y',ow',N,l,H,I⟩:=h.mk2.Gh h.hB t K o J ⟨_,L⟩ q;have d:=(h.mk2.ki l).kr;refine⟨Y',ow',h.go d (h.mk2.sW l) o.size N (TV _) E a x' hm (λi f hi=> ?_) (λi p _ hp=>.inl (by rw[<-j];exact hp)) (λi _=>by rw[j]) (F ow' H I) (r Y' d (h.mk2.sW l)) D (λi g C=>gr (h.mlt i g C) o.size) (by rw[j];exact h.mdm) h.inj y,l⟩;rcases A ow' H d i f hi with⟨h1,h2⟩|h1
 .exact .inl ⟨h1,λb hb=>⟨I b _ hb h2,o.block b (h.mk2.lt (h.mk2.owx b _ hb)) (λe=>by
   rcases e with e|e
   .subst e;rw[h.mk2.owM] at hb;cases hb
   .rw[hb] at e;exact h2 (pb e))⟩⟩
 .exact .inr h1
def nI(fx:List X)(m:Rm)(x:XS):Prop:=∃j:Nat,m.form=j/\j<fx.length/\x.fs=fx.drop (j+1)
def Pr(w:aa)(Y:a9)(mo mf:Nat->Option Nat)(fx:List X)(m:Rm)(x:XS)(n:Nat):XM->Prop
 |.next=>m.mode=0/\x.ch=[]/\∃j:Nat,m.form=j/\j<=fx.length/\x.fs=fx.drop j
 |.ev e=>m.mode=1/\n<=40/\XX w mo n m.v e/\FP mf x.fr m.fr/\nI fx m x
 |.back v=>m.mode=2/\RX w mo v m.v/\nI fx m x
 |.app p a=>m.mode=3/\a.length<=1001/\nI fx m x/\∃cs,LR w Y m.args cs/\fU w mo (p::a) cs
def KW(B:Nat)(w:aa)(Y:a9)(ow:Nat->Option Nat)(M:Nat)(fx:List X)(x:XS)(n made:Nat):Prop:=∃mo mf m,aI w M m/\RC B w Y ow mo mf M fx m x/\Pr w Y mo mf fx m x n x.md/\m.made=(made:Int)
def A8(B:Nat)(w:aa)(Y:a9)(ow:Nat->Option Nat)(M:Nat)(st er:Int)(d:Nat)(t:au)(o:List au)(made:Nat):Prop:=∃m,aI w M m/\Mk B w Y ow M/\B<=w.heap.size/\m.st=st/\m.er=er/\cL w m.ch d/\lC w 0 ow m.out.v o/\(st=1->m.last=⟨t.toArray⟩)/\m.made=(made:Int)
def A7(x:XS)(r:XR):Prop:=dG x=r\/∃x1,dG x=.ok x1/\x1.md.isApp=false/\dG x1=r
def lf(B:Nat)(w:aa)(Y:a9)(ow:Nat->Option Nat)(M:Nat)(fx:List X)(x:XS)(n made:Nat)(w':aa):Prop:=∃b ow',Gw Y ow w b ow' w'/\((∃a,a<n/\x.md.isApp=false/\KW B w' b ow' M fx x a made)\/(∃c a,a<=40/\A7 x (.ok c)/\KW B w' b ow' M fx c a (made+x.md.cost))\/∃e d o,A7 x (.err e d o)/\A8 B w' b ow' M 2 e d [] o (made+x.md.cost))
theorem Qj{w:aa}(d:aI w M m)(h:aB (λk=>k=M) w w'):KR w w':=⟨T1 h λk c b a=>by subst b;exact absurd rfl (bB a d (by decide)),T1 h λk c b a=>by subst b;exact absurd rfl (bB a d (by decide)),T1 h λk c b a=>by subst b;exact absurd rfl (bB a d (by decide))⟩
theorem RC.kr{w:aa}(h:RC B w Y ow mo mf M fx m x)(a:aI w M m)(b:aB (λk=>k=M) w w'):KR w w':=Qj a b
theorem RC.yM{w:aa}(h:RC B w Y ow mo mf M fx m x)(a:aI w M m):Y M:=h.mk2.owx _ _ h.mk2.owM
theorem RC.sW{w:aa}(h:RC B w Y ow mo mf M fx m x)(c:aI w M m)(d:aB (λk=>k=M) w w'):Gn w Y w' Y:=λb hb a=>⟨a,d.block b hb λe=>a (e▸h.yM c)⟩
theorem RC.yb{w:aa}(h:RC B w Y ow mo mf M fx m x)(b:aI w M m):∀k,w.heap.size<=k->¬Y k:=λk c a=>by have:=h.mk2.lt a;omega
theorem RC.arm{w:aa}(h:RC B w Y ow mo mf M fx m x)(q:aI w M m)(A:aB (λk=>k=M) w w')(a:Rm)(b:aI w' M a)(x':XS)(p:Nat)(v:p<=40)(C:A7 x (.ok x'))(hm:a.fo=m.fo/\a.gl=m.gl/\a.st=0/\a.er=0)(l:a.out=m.out)(o:x'.frs=x.frs/\x'.obs=x.obs/\x'.out=x.out)(j:a.made=((made+x.md.cost:Nat):Int))(c:iU w' Y mo mf a.ch x'.ch)(d:a.last=⟨(rU x'.last).toArray⟩)(y:Pr w' Y mo mf fx a x' p x'.md):lf B w Y ow M fx x n made w':=by
 obtain⟨h1,r⟩:=h.M3 q A a b x' hm l o c d;exact⟨Y,ow,r,.inr (.inl ⟨x',p,v,C,mo,mf,a,b,h1,y,j⟩)⟩
theorem RC.fail{w:aa}(h:RC B w Y ow mo mf M fx m x)(l:aI w M m)(j:aB (λk=>k=M) w w')(a:Rm)(b:aI w' M a)(e:Int)(d:Nat)(v:A7 x (.err e d x.out))(hm:a.st=2/\a.er=e/\a.out=m.out)(o:cL w' a.ch d)(c:a.made=((made+x.md.cost:Nat):Int)):lf B w Y ow M fx x n made w':=by
 obtain⟨r,p⟩:=h.mk2.M3 j ⟨_,b⟩;refine⟨Y,ow,p,.inr (.inr ⟨e,d,x.out,v,a,b,r,ku h.hB j.size,hm.1,hm.2.1,o,?_,λq=>absurd q (by decide),c⟩)⟩;rw[hm.2.2];exact h.Ji l j
theorem RC.zZ{w:aa}(h:RC B w Y ow mo mf M fx m x)(l:aI w M m)(p:x.md=.ev e)(k:XK)(e':X)(J:Gq x e=iB x k e')(D:aB (λk=>k=M) w w1)(E:Kc)(c:Vc)(hp:ft w1 M m E c x.ch.length w')(I:∀w',KR w w'->aB (λk=>k=M) w1 w'->KX w' Y mo mf {E with fr:=m.fr,next:=m.ch,deep:=(x.ch.length:Int)+1} k)(y:Nat)(C:y<=40)(G:∀w',KR w w'->aB (λk=>k=M) w1 w'->XX w' mo y c e')(hf:FP mf x.fr m.fr)(v:nI fx m x)(o:m.made=(made:Int))(A:x.ch.length<=200):lf B w Y ow M fx x n made w':=by
 have q:dG x=iB x k e':=by unfold dG;rw[p];exact J
 have b:x.md.cost=0:=by rw[p];rfl
 unfold ft at hp;split at hp
 .rename_i hlt
  obtain⟨g,H,F,r,j⟩:=hp;have a:=D.trans j (λ_ _ h=>h);have d:=h.kr l a;exact h.arm l a _ r {x with md:=.ev e',ch:=k::x.ch} y C (.inl (by rw[q];unfold iB;rw[fb (by omega)])) ⟨rfl,rfl,h.st.1,h.st.2⟩ rfl ⟨rfl,rfl,rfl⟩ (by rw[b];exact o) ⟨g,_,rfl,F,by simp,I w' d j,iU.ak d (TV _) (TV _) (h.sW l a) _ _ h.ch⟩ h.la ⟨rfl,C,G w' d j,hf,v⟩
 .rename_i hlt
  have a:=D.trans hp.2 (λ_ _ h=>h);exact h.fail l a _ hp.1 9 x.ch.length (.inl (by rw[q];unfold iB jl;rw[fN (by omega)])) ⟨rfl,rfl,rfl⟩ (h.ch.deep.upd l a) (by rw[b];exact o)
def GX(z:BS)(vs:List V)(x:XS):Prop:=cD z/\(z.is.length<=1000000/\z.ns.length<=900000)/\∃s,Rel z vs s x
theorem GX.len(h:GX z vs x)(hi:x.frs[i]? =some f):f.ns.length<=1000000:=by
 obtain⟨_,b,s,a⟩:=h;obtain⟨fr,y,h1,h2,h3⟩:=a.cm.fr.get (cy hi);rw[hi] at h2;cases h2;have:=h3.len;have:=h3.l3;omega
theorem GX.ch(h:GX z vs x):x.ch.length<=200:=by
 obtain⟨_,_,s,a⟩:=h;exact a.cm.ch.1
theorem GX.step(h:GX z vs x)(d:dG x=.ok x'):GX z vs x':=by
 obtain⟨b,a,s,c⟩:=h;have:=Ax b ⟨a.1,by omega⟩ c;rw[d] at this;obtain⟨s',_,h2⟩:=this;exact⟨b,a,s',h2⟩
theorem Jk{w:aa}(h:w.ownsRow B 9 1 (.slice u.a u.n u.c) ns.length (ns.map bO))(l:∀k,B<=k->Q k):NR w Q u ns:=by
 obtain⟨a,d,q,h1,h2,h3⟩:=ay h;obtain⟨A,un,C⟩:=u;cases q;refine⟨rfl,h1,h2,λhp=> ?_⟩;rcases h.2 with⟨b,v⟩|⟨g,cap',j,b,hb,o,_,_,y,r⟩
 .omega
 .cases b;refine⟨g,j,rfl,o,l g hb,λi s hi=> ?_⟩;have hf:(ns.map bO)[i]? =some (bO s):=by rw[Sa,hi];rfl
  have p:=(ke.1 hi).1;rw[<-r,Bk,fN (by omega),C1] at hf;exact hf
theorem O6{w:aa}(h:w.ownsRow 0 9 1 (.slice u.a u.n u.c) ns.length (ns.map bO)):Rg w u ns:=by
 obtain⟨h1,_,_,j⟩:=Jk (Q:=λ_=>True) h (λ_ _=>trivial);refine⟨h1,λi s hi=> ?_⟩;obtain⟨g,l,b,e2,_,d⟩:=j (RI (kc _) (cy hi));exact⟨g,b,by rw[ae e2];exact d i s hi⟩
theorem RC.Rk{w:aa}(h:RC B w Y ow mo mf M fx m x)(l:aI w M m)(d:GX z vs x)(c:aB (λk=>k=M) w W):Rf W mf x.frs:=λi fr hi=>by
 obtain⟨g,f,vcs,h1,h2,h3,p,q,r,a⟩:=(h.fr i fr hi).ak (h.kr l c) (TV _) (TV _) (ow':=ow) (λb hb=>⟨hb,c.block b (h.mk2.lt (h.mk2.owx b _ hb)) (λe=>by subst e;rw[h.mk2.owM] at hb;cases hb)⟩);refine⟨g,f,h1,h3.fc,O6 h3.nr,d.len hi,a,λj o=> ?_⟩;rw[o] at a;have:=cy hi;exact Nat.lt_trans a.1 this
theorem l5:∀{k f a i:Nat},eG frs k f s=some (a,i)->∃fr,frs[a]? =some fr/\dE fr.ns s=some i
 |0,_,_,_,h=>by cases h
 |k+1,f,a,i,h=>by
  unfold eG at h;cases hf:frs[f]? with
  |none=>rw[hf] at h;cases h
  |some fr=>
   rw[hf] at h;simp only at h;cases hi:dE fr.ns s with
   |some j=>rw[hi] at h;cases h;exact⟨fr,hf,hi⟩
   |none=>
    rw[hi] at h;simp only at h;cases ho:fr.out with
    |none=>rw[ho] at h;cases h
    |some g=>rw[ho] at h;exact l5 h
theorem I0(w:aa)(Y:a9):LR w Y ef []:=⟨rfl,ew _,kc _,λh=>absurd h (by simp)⟩
theorem XL.length{w:aa}:∀{cs:List Vc} {xs:List X},XL w mo n cs xs->cs.length=xs.length
 |_,_,.nil _=>rfl
 |_,_,.cons _ _ _ _ _ _ h=>by simp[XL.length h]
theorem RC.Q8{w:aa}(h:RC B w Y ow mo mf M fx m x)(l:aI w M m)(j:t≠0)(o:aB (λk=>k=M\/ow k=some t) w w')(ho:∀k d,ow k=some d->d≠t->ow' k=some d):lC w' 0 ow' m.out.v x.out:=h.ou.ak λb c hb a=>⟨ho b 0 hb (S6 j),by
 rw[o.block b (ai a) (λe=>e.elim (mg l a (by decide)) λe=>by rw[hb] at e;exact j (pb e).symm)];exact a⟩
def NH(g:Nat)(f:Fc)(k:Nat):Prop:=k=g\/f.names.v.ownBlock=some k\/f.vals.v.ownBlock=some k
theorem sX.Rl{w:aa}{f:Fc}(h:sX w 0 g f ns vcs)(b:NH g f k):∃c T,w.heap[k]? =some (Obj.cells c T (0,0))/\MT.contains T=true:=by
 rcases b with e|e|e
 .subst e;exact⟨_,_,h.fc,by decide⟩
 .obtain⟨c,a⟩:=bt h.nr e;exact⟨c,_,a,by decide⟩
 .obtain⟨c,a⟩:=bt h.vr e;exact⟨c,_,a,by decide⟩
theorem RC.nh{w:aa}(h:RC B w Y ow mo mf M fx m x)(H:aI w M m)(i gf:Nat)(c:Fc)(vcs:List Vc)(fr:XF)(mf':Nat->Option Nat)(v:Le mf mf')(q:mf' i=some gf)(E:aB (λk=>k=M\/ow k=some (i+1)) w w')(a:Rm)(d:aI w' M a)(hm:a.fo=m.fo/\a.gl=m.gl/\a.st=0/\a.er=0)(y:a.out=m.out)(x':XS)(F:x'.obs=x.obs/\x'.out=x.out)(p:∀j f,x'.frs[j]? =some f->(x.frs[j]? =some f/\j≠i)\/(j=i/\f=fr))(C:sX w' 0 gf c fr.ns vcs)(hR:KR w w'->fU w' mo fr.vs vcs)(G:∀k,NH gf c k->ow k=some (i+1)\/w.heap.size<=k)(A:Pu mf' i fr.out c.up)(l:∀Y',KR w w'->Gn w Y w' Y'->iU w' Y' mo mf' a.ch x'.ch)(r:a.last=⟨(rU x'.last).toArray⟩)(o:∀i g,mf' i=some g->i<x'.frs.length):∃Y' ow',RC B w' Y' ow' mo mf' M fx a x'/\Gw Y ow w Y' ow' w':=by
 refine h.Gh (i+1) (NH gf c) E (λk D=>⟨G k D,C.Rl D⟩) a d (λe=>by omega) mf' v x' hm F.1 (λow' ho k j f I=> ?_) (λow' _ ho=>by rw[y,F.2];exact h.Q8 H (by omega) E ho) l r o;rcases p j f I with⟨h1,h2⟩|⟨rfl,rfl⟩
 .exact .inl ⟨h1,by omega⟩
 .exact .inr ⟨gf,c,vcs,q,ho _ (.inl rfl),C,hR k,λb hb=>ho b (.inr (.inl hb)),λb hb=>ho b (.inr (.inr hb)),A⟩
theorem ft.ok{w:aa}{k:Kc}{c:Vc}{d:Nat}(h:ft w M m k c d w')(a:d<200):∃g,w.heap.size<=g/\di w' g {k with fr:=m.fr,next:=m.ch,deep:=(d:Int)+1}/\aI w' M {m with ch:=eb g,mode:=1,v:=c}/\aB (λk=>k=M) w w':=by
 unfold ft at h;rw[fN a] at h;exact h
theorem XD.get{w:aa}{vs:List Vc}(h:XD w bs ns vs):ns.length=bs.length/\vs.length=bs.length/\∀i,i<bs.length->∃g q t a,bs[i]? =some (eg g)/\ns[i]? =some t/\vs[i]? =some a/\gY w g (dy t) (eg q)/\gY w q a (cQ 4 0):=by
 induction h with
 |nil=>exact⟨rfl,rfl,λi hi=>absurd hi (by simp)⟩
 |cons g q bs t ns a vs h1 h2 _ b=>
  refine⟨by simp[b.1],by simp[b.2.1],λi hi=> ?_⟩;cases i with
  |zero=>exact⟨g,q,t,a,rfl,rfl,rfl,h1,h2⟩
  |succ i=>exact b.2.2 i (by simpa using hi)
def QQ(w:aa)(Y:a9)(M:Nat)(m:Rm)(ns:List au)(ds vs:List Vc)(d:Nat)(w':aa):Prop:=∃(a c:Vc) (u:Sl) (w1:aa),eC w1 a (ns.map dy)/\eC w1 c (dy cz::a::ds)/\LR w1 Y u (c::vs)/\Below w.heap.size w w1/\ft w1 M m ⟨5,⟨#[]⟩,u,ef,none,none,0⟩ c d w'
theorem Ap{w:aa}{v:al}{x:Vc}(a:cs[k]? =some x)(h:w.ownsRow B 96 5 v (k+1) (bw (cs.take k)++x.c.toList)):Row B w v (cs.take (k+1)):=by
 have b:k<cs.length:=(ke.1 a).1;have e:cs.take (k+1)=cs.take k++[x]:=by rw[List.take_add_one,a];rfl
 unfold Row;rw[e,eP,ga,RE,SN (by omega)];exact h
set_option maxHeartbeats 8000000 in
theorem M5(w:aa)(Y:a9)(M:Nat)(m:Rm)(u:Sl)(c0 q x:Vc)(ds bs vs:List Vc)(ns:List au)(d:Nat)(h:aI w M m)(hL:LR w Y u (c0::q::x::ds))(hN:∀k,w.heap.size<=k->¬Y k)(hC:eC w q bs)(hX:XD w bs ns vs)(Hl:ds.length<=998)(He:bs.length<=1000)(hD:cL w m.ch d):cl 185 #[Pt M,.slice u.a u.n u.c] w (cA (QQ w Y M m ns (x::ds) vs d)):=by
 obtain⟨Ht,Hu,hK⟩:=hX.get;obtain⟨gl,ol,hT,Hp,_,a0,a1,a2,a3,a4⟩:=hL.at (i:=1) (v:=q) rfl;rw[PS] at a0 a1 a2 a3 a4;have hn:u.n=ds.length+3:=hL.1;have hc:u.n<=u.c:=hL.2.1;rw[hT,hn];obtain⟨n,hr⟩:∃n,n=ds.length+3:=⟨_,rfl⟩;rw[<-hr];have Hq:(3:Int)<=(n:Int):=by omega
 have Hs:(n:Int)<=(u.c:Int):=by omega
 have hd:=ag (dM _ q w hC He);obtain⟨i0,hi,hZ,H0,ht⟩:=sv kh;have E:=ag (ei hi (ei hZ (ei H0 ht)));have HX:=ag (ei h (ei hL (ei hK (ei hD hN))));have Hr:n<=1001:=by omega
 have HN:=ag hr;clear hr hn hc;clear h hL hi hZ H0 ht hC hX hK hD hN;unfold Vc.c at hd;go_enter func185,ntmps185;go_wp2_with fail;refine hd.out.mono ?_;rintro e w2 ⟨v,rfl,l,hm⟩;obtain⟨ub,rfl,hl⟩:=l.lr (Y:=λ_=>False) (λ_ _ _ h=>h);have h8:ub.n=bs.length:=hl.1;obtain⟨ua,un,uc⟩:=ub;simp only at h8;subst h8;have hy:=ag hl;have hx:=ag hm;have ht:=hm.size;clear l hl hm hd;go_wp2
 go_loopw [6,8] (λv i wr=>∃k:Nat,k<=bs.length/\i=Jn k/\Row w2.heap.size wr v ((ns.map dy).take k)/\Below w2.heap.size w2 wr) (λ_ i _=>bs.length-(intOf i).toNat)
 case atStart=>exact⟨0,kc _,rfl,oh _ _ _ _,fL _ _⟩
 case round=>
  obtain⟨k,hk,rfl,l,hb⟩:=hrel;have hw:=hb.size;by_cases hlt:k<bs.length
  .obtain⟨g,q1,t,a,e1,e2,e3,hP,hQ⟩:=HX.out.2.2.1 k hlt;obtain⟨gb,ob,U,hU,_,_,_,_,l3,_⟩:=(hy.out.below hb).at e1;simp only at U;subst U;simp only[eg] at l3;have A:gY wr g (dy t) (eg q1):=by
    have hg:=ai hP;unfold gY;rw[hb.block g (by omega),hx.out.block g hg];exact hP
   obtain⟨z,hz⟩:∃z:ao,z=⟨t.toArray⟩:=⟨_,rfl⟩;have x0:=kd A 0 (Jn 3);have x1:=kd A 1 (Jn 0);have x2:wr.cell? (dq g 2)=some (.string z):=by rw[hz];exact ae A 2
   have x3:=kd A 3 (.pointer none);have x4:=kd A 4 (.pointer none);have i1:(0:Int)<=(k:Int):=by omega
   have i2:(k:Int)<(bs.length:Int):=by omega
   have HR:=ag l;have HB:=ag hb;have HZ:=ag hz;have S:((ns.map dy).take k).length=k:=by simp;omega
   have Hf:k<=1000:=by omega
   have L:=ag S;have H2:=ag e2;clear l hb hP hQ A hz S e1 e2 e3;go_wp2_with (at_builtin;refine nl _ rfl (.tmp 24) (.tmp 33) 65 rfl w2.heap.size 96 i0 fm 5 48 underlying65 E.out.1 E.out.2.1 E.out.2.2.1 E.out.2.2.2 rfl (by decide) _ ((ns.map dy).take k).length (bw ((ns.map dy).take k)) rfl (HR.out.alloc _) (dq wr.heap.size 0) 1 1 [Jn 3,Jn 0,.string z,.pointer none,.pointer none] rfl rfl (iO (fK _ _)) (by intro u hu;simp at hu;rcases hu with rfl|rfl|rfl|rfl|rfl<;>rfl) (by decide) (by rw[L.out];unfold maxLen;omega) (by rw[L.out];omega) (by simp;omega) (wr.heap.size+1) (by simp) ?_);intro g1 Ha w1 o r Hd h6;have hh:=ag (bC r);have hf:=ag o;clear o r;go_wp2;go_roundw
   case rel=>
    refine⟨k+1,by omega,by go_num,Ap (x:=dy t) (by rw[Sa,H2.out];rfl) ?_,HB.out.trans (hh.out.below hw (λj hj=>(ar HR.out hj).1))⟩;have:=hf.out;rw[HZ.out] at this;exact this
   case measure=>simp[intOf];omega
  .have hp:k=bs.length:=by omega
   subst hp;rw[s9 (by simp;omega)] at l;obtain⟨un1,rfl,hH⟩:=l.lr (Y:=λ_=>False) (λ_ _ _ h=>h);have H:=ag (sB wr un1 _ _ hH (by rw[ta];omega));have HB:=ag hb;have Hj:gl<wr.heap.size:=by omega
   clear l hb hH;go_wp2_with fail;refine H.out.mono ?_;rintro e w3 ⟨K,rfl,hJ,h2⟩;have N:Below w.heap.size w w3:=(hx.out.trans (HB.out.mono (by omega))).trans (h2.mono (by omega));have Hx:=h2.size;have h3:Below w2.heap.size w2 w3:=HB.out.trans (h2.mono (by omega));have hE:=HX.out.2.1.below N;have hF:=(hE.tail hT).tail rfl;obtain⟨gl2,ol2,h5,hV,_,hS⟩:=hF.flat (by simp);simp only at h5;cases h5;obtain⟨Z,J⟩:∃Z,Z=w3.alloc (.cells ((dy cz).c++K.c) 96):=⟨_,rfl⟩;have ho:Below w3.heap.size w3 Z:=by rw[J];exact(fL _ w3).alloc (ew _) _
   have hv:Z.heap.size=w3.heap.size+1:=by rw[J];simp
   have H8:Hid (Z.ownsRow w3.heap.size 96 5 (.slice (eb w3.heap.size) 2 2) 2 (bw [dy cz,K])):=⟨rfl,.inr ⟨w3.heap.size,2,_,rfl,ew _,by rw[J];exact fK _ _,ew 2,by unfold maxLen;omega,rfl,rfl⟩⟩;have H6:Hid (∀(j:Nat) y,(bw (x::ds))[j]? =some y->Z.cell? (Addr.add (dq gl (ol+10)) j)=some y):=λj y hj=>by
    have h1:=hS j y hj;have ha:Addr.add (dq gl (ol+10)) j=(dq gl (ol+10+j)):=by simp[Addr.add]
    have Hc:Addr.add (dq gl (ol+5+5)) j=(dq gl (ol+10+j)):=by simp[Addr.add]
    rw[Hc] at h1;rw[ha,ho.cell (p:=(dq gl (ol+10+j))) hV];exact h1
   have H7:Hid ((bw (x::ds)).length=(n-2) *5):=by have:=HN.out;show _=_;rw[eX];simp;omega
   have Hg:0<n-2:=by omega
   have Ho:¬u.c=2:=by omega
   have HA:=ag (ei N (ei ho (ei hv (ei hJ h3))));simp only[Vc.c,dy,cz] at J;have H9:=ag J;clear h2 N h3 hE hF hS J ho hv hJ H;unfold Vc.c;go_wp2_with (at_builtin;(first|rw[show w3.alloc (Obj.cells #[Jn 3,Jn 0,.string ⟨#[108,97,109,98,100,97]⟩,.pointer none,.pointer none,Jn K.k,Jn K.n,.string K.s,.pointer K.p,.pointer K.f] 96)=Z from H9.out.symm]);refine nl _ rfl (.tmp 39) (.tmp 41) 65 rfl w3.heap.size 96 i0 fm 5 48 underlying65 E.out.1 E.out.2.1 E.out.2.2.1 E.out.2.2.2 rfl (by decide) _ 2 (bw [dy cz,K]) rfl H8.out (dq gl (ol+10)) (n-2) _ (bw (x::ds)) rfl H7.out H6.out (kS (x::ds)) Hg (by unfold maxLen;omega) (by omega) (by have:=HA.out.2.2.1;omega) Z.heap.size rfl ?_);intro g1 cap1 w4 o C hO h6;have hv:=HA.out.2.2.1;have Hi:=C.1;have hs:aB (λk=>k=w3.heap.size) Z w4:=T2 (TU _ Z) C (λk hk _=>(pb hk).symm);have Hi:=hs.size;have h4:Below w3.heap.size w3 w4:=HA.out.2.1.trans (hs.below (by omega) (λk hk=>by omega));have l:Row w3.heap.size w4 (.slice (eb g1) (2+(n-2)) cap1) (dy cz::K::x::ds):=by
    unfold Row;rw[show(dy cz::K::x::ds).length=2+(n-2) by have:=HN.out;simp;omega];exact o
   obtain⟨u1,h7,hG⟩:=l.lr (Y:=λ_=>False) (λ_ _ _ h=>h);have H:=ag (sB w4 u1 _ _ hG (by simp;omega));rw[<-h7] at H;have H4:=ag h4;clear o C hO hs h4 l h7 hG
   generalize 2+(n-2)=qn at *
   go_wp2_with fail;refine H.out.mono ?_;rintro e F ⟨c,rfl,hB,R⟩;have Hy:=R.size;have O:Below w.heap.size w F:=HA.out.1.trans ((H4.out.trans (R.mono (by omega))).mono (by have:=HA.out.1.size;omega));have hI:eC F K (ns.map dy):=T4 (T6 (H4.out.trans (R.mono (by omega)))) _ _ HA.out.2.2.2.1;have P:Below w2.heap.size w2 F:=HA.out.2.2.2.2.trans ((H4.out.trans (R.mono (by omega))).mono (by have:=HA.out.2.2.2.2.size;omega));have H5:=ag (ei O (ei hI (ei hB P)));have Hn:=P.size;have Hv:=O.size;clear hB R O P hI H;have he:Hid ((F.alloc (.cells c.c 96)).ownsRow F.heap.size 96 5 (.slice none 0 0) 0 (bw [])):=oh _ _ _ _;unfold Vc.c at he ⊢;go_wp2_with (at_builtin;refine nl _ rfl (.tmp 43) (.tmp 46) 65 rfl F.heap.size 96 i0 fm 5 48 underlying65 E.out.1 E.out.2.1 E.out.2.2.1 E.out.2.2.2 rfl (by decide) _ 0 (bw []) rfl he.out (dq F.heap.size 0) 1 1 [Jn c.k,Jn c.n,.string c.s,.pointer c.p,.pointer c.f] rfl rfl (iO (fK _ _)) (l8 c) (by decide) (by unfold maxLen;omega) (by omega) (by simp) (F.heap.size+1) (by simp) ?_);intro g6 cap6 w6 V G hR Hm;have hY:=bC G;have X:Row F.heap.size w6 (.slice (eb g6) 1 cap6) ((c::vs).take 1):=V;have hA:=ag (ei X (hY.below (B:=F.heap.size) (ew _) (λk hk=>by cases hk)));clear V G hR hY X he;go_wp2
   go_loopw [7,10] (λv i wr=>∃k:Nat,k<=bs.length/\i=Jn k/\Row F.heap.size wr v ((c::vs).take (k+1))/\Below F.heap.size F wr) (λ_ i _=>bs.length-(intOf i).toNat)
   case atStart=>exact⟨0,kc _,rfl,hA.out.1,hA.out.2⟩
   case round=>
    obtain⟨k,hk,rfl,l,hb⟩:=hrel;have hw:=hb.size;by_cases hlt:k<bs.length
    .obtain⟨g,q1,t,a,e1,e2,e3,hP,hQ⟩:=HX.out.2.2.1 k hlt;have D:Below w.heap.size w wr:=H5.out.1.trans (hb.mono (by omega));obtain⟨gb,ob,U,hU,_,_,_,_,l3,_⟩:=(hy.out.below (H5.out.2.2.2.trans (hb.mono (by omega)))).at e1;simp only at U;subst U;simp only[eg] at l3;have A:gY wr g (dy t) (eg q1):=(D.block g (ai hP)).trans hP;have I:gY wr q1 a (cQ 4 0):=(D.block q1 (ai hQ)).trans hQ;have y8:=kd A 8 (Pt q1);have x0:=kd I 0 (Jn a.k);have x1:=kd I 1 (Jn a.n);have x2:=kd I 2 (.string a.s);have x3:=kd I 3 (.pointer a.p);have x4:=kd I 4 (.pointer a.f);have i1:(0:Int)<=(k:Int):=by omega
     have i2:(k:Int)<(bs.length:Int):=by omega
     have HR:=ag l;have H1:=ag hb;have S:((c::vs).take (k+1)).length=k+1:=by simp;omega
     have Hf:k<=1000:=by omega
     have L:=ag S;have H3:=ag e3;clear l hb D hP hQ A I S e1 e2 e3;go_wp2_with (at_builtin;refine nl _ rfl (.tmp 54) (.tmp 67) 65 rfl F.heap.size 96 i0 fm 5 48 underlying65 E.out.1 E.out.2.1 E.out.2.2.1 E.out.2.2.2 rfl (by decide) _ ((c::vs).take (k+1)).length (bw ((c::vs).take (k+1))) rfl (HR.out.alloc _) (dq wr.heap.size 0) 1 1 [Jn a.k,Jn a.n,.string a.s,.pointer a.p,.pointer a.f] rfl rfl (iO (fK _ _)) (l8 a) (by decide) (by rw[L.out];unfold maxLen;omega) (by rw[L.out];omega) (by simp;omega) (wr.heap.size+1) (by simp) ?_);intro g1 Ha w1 o r Hd h6;have hh:=ag (bC r);have hf:=ag o;clear o r;go_wp2;go_roundw
     case rel=>exact⟨k+1,by omega,by go_num,Ap (cs:=c::vs) (k:=k+1) (x:=a) H3.out hf.out,H1.out.trans (hh.out.below hw (λj hj=>(ar HR.out hj).1))⟩
     case measure=>simp[intOf];omega
    .have hp:k=bs.length:=by omega
     subst hp;rw[s9 (by simp;omega)] at l;have D:Below w.heap.size w wr:=H5.out.1.trans (hb.mono (by omega));have hq:KR F wr:=T6 hb;obtain⟨⟨xa,xn,xc⟩,rfl,h0⟩:=l.lr (Y:=Y) (λj hj _=>HX.out.2.2.2.2 j (by omega));obtain⟨gx,ox,hW,Hk,_,z0,z1,z2,z3,z4⟩:=h0.at (i:=0) (v:=c) rfl;simp only[v7,rn] at z0 z1 z2 z3 z4;simp only at hW;subst hW;have Hb:=HX.out.1.lt;have hM:aI wr M m:=(D.block M Hb).trans HX.out.1;have Hh:xn=vs.length+1:=h0.1;have Hw:(0:Int)<(xn:Int):=by omega
     have HP:=ag (eu wr M m ⟨5,⟨#[]⟩,⟨some (dq gx ox),xn,xc⟩,ef,none,none,0⟩ c d hM (HX.out.2.2.2.1.upd HX.out.1 (TW _ D)));unfold Kc.c Vc.c ef at HP;have HF:=ag (ei (T4 hq _ _ H5.out.2.1) (ei (T4 hq _ _ H5.out.2.2.1) (ei h0 D)));clear l hb D hq h0 hM Hh;go_wp2_with fail;refine HP.out.mono ?_;intro e w9 h9;obtain rfl:=h9.ret;have HM:=ag (h9.b (w:=wr) (TU _ _));clear h9;go_wp2;refine TT ?_;exact⟨rfl,K,c,_,wr,HF.out.1,HF.out.2.1,HF.out.2.2.1,HF.out.2.2.2,HM.out⟩
end Go.Proofs.YtlobegpjenabaaaGreatDoor
