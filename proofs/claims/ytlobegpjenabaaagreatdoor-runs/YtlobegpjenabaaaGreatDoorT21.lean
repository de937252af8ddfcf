import Derived.Test.YtlobegpjenabaaaGreatDoorT20
namespace Go.Proofs.YtlobegpjenabaaaGreatDoor
open Go.RowKit Tryz
set_option linter.unusedVariables false
set_option linter.defProp false
set_option maxRecDepth 100000
set_option maxHeartbeats 4000000
def S1:=@List.length_drop
variable {M B K L n m Ka Kb Ko La Ma Lb Mb Lo Mo T o:Nat} {f:D->Option E} {mk:au->E->E} {C:Cd} {t:au} {w' w1 a:aa} {ow ow' o1 o1' o2 oa ob oo oa' mo mo' mf mf':Nat->Option Nat} {r r' ra rb ro:RR} {X' Y Y' Q Q':a9} {z:BS} {vs:List V} {s:MS} {xs:a7} {c':bc} {ns:List au}
mutual
def tI:D->Prop
 |.agg l=>lE l
 |.slice l _=>lE l
 |.lit (.int .i64 k)=> -9223372036854775808<=k/\k<=9223372036854775807
 |.lit (.bool _)=>True
 |.lit (.string t)=>t.length<=8000
 |_=>False
def lE:List D->Prop
 |[]=>True
 |d::r=>tI d/\lE r
end
theorem kR:∀(a b:List D),lE a->lE b->lE (a++b)
 |[],b,_,h=>h
 |d::r,b,h,k=>⟨h.1,kR r b h.2 k⟩
theorem se:∀(l:List D) (d:D),lE l->d∈l->tI d/\kZ d<=fT l
 |[],d,_,h=>by cases h
 |a::r,d,h,hm=>by
  simp only[fT];cases hm with
  |head=>exact⟨h.1,by omega⟩
  |tail _ hm=>have:=se r d h.2 hm;exact⟨this.1,by omega⟩
theorem BA:∀(n:Nat) (d:D),tI d->kZ d<n->yz n d=true
 |0,d,_,h=>by omega
 |n+1,.agg l,h,e=>by
  simp only[yz,RT];intro d c;have:=se l d h c;simp only[kZ] at e;exact BA n d this.1 (by omega)
 |n+1,.slice l _,h,e=>by
  simp only[yz,RT];intro d c;have:=se l d h c;simp only[kZ] at e;exact BA n d this.1 (by omega)
 |n+1,.lit (.int .i64 k),h,_=>by simp only[yz,rr,PN];exact h
 |n+1,.lit (.bool _),h,_=>rfl
 |n+1,.lit (.string t),h,_=>by simp only[yz,PN];exact h
 |n+1,.lit (.int .i8 k),h,_=>h.elim
 |n+1,.lit (.int .i16 k),h,_=>h.elim
 |n+1,.lit (.int .i32 k),h,_=>h.elim
 |n+1,.lit (.int .u8 k),h,_=>h.elim
 |n+1,.lit (.int .u16 k),h,_=>h.elim
 |n+1,.lit (.int .u32 k),h,_=>h.elim
 |n+1,.lit (.int .u64 k),h,_=>h.elim
 |n+1,.lit (.float a b),h,_=>h.elim
 |n+1,.lit .nil,h,_=>h.elim
 |n+1,.nil,h,_=>h.elim
 |n+1,.ptr _,h,_=>h.elim
 |n+1,.iface _ _,h,_=>h.elim
 |n+1,.map _,h,_=>h.elim
 |n+1,.held _,h,_=>h.elim
theorem Nu(t:au)(d:D)(j:t.length<=8000)(h:ig t=some d):tI d:=by
 rcases j5 t with⟨_,h2⟩|⟨_,b,_,h3⟩|⟨_,h2,h3,i⟩|⟨_,h2⟩
 .rw[h2] at h;cases h
 .rw[h3] at h;cases h;exact trivial
 .rw[i] at h;cases h;have g:((body t).all λc=>cY c==1)=true:=by
   unfold TK at h2;rw[rr] at h2;exact h2.2
  obtain⟨u,k,e2,e3⟩:=mj (body t) 0 0 g (by simp) (by omega);have l:u<10^18:=gr e3 (SJ (by omega) (by omega));have e:val (body t)=u:=e2;rw[e];show-9223372036854775808<=_/\_<=9223372036854775807;split<;>omega
 .rw[h2] at h;cases h;exact j
theorem Ah(l:au)(e:l.length<=8000):∀(n op i:Nat) (m:Option (List D)) (d:D) (k:Nat),(match m with|none=>True|some b=>lE b)->rd n l op i m=.inr (d,k)->tI d
 |0,op,i,m,d,k,_,h=>by simp[rd] at h
 |n+1,op,i,none,d,k,hm,h=>by
  simp only[rd] at h;split at h
  .cases h
  split at h
  .split at h
   .cases h
   .exact Ah l e n (op+1) (i+1) (some []) d k trivial h
  split at h
  .split at h
   .cases h
   .split at h
    .cases h
    .split at h
     .cases h
     .rename_i c j g
      cases h;have:=Ah l e n (op+1) (aJ l (i+1)) none c k trivial g;exact⟨show sr.length<=8000 by decide,this,trivial⟩
  split at h
  .cases h
  .split at h
   .cases h
   .rename_i c q
    cases h;exact Nu _ _ (by simp only[RE,S1];omega) q
 |n+1,op,i,some b,d,k,hm,h=>by
  simp only[rd] at h;split at h
  .cases h
  split at h
  .cases h;exact hm
  split at h
  .cases h
  .rename_i c j g
   have p:=Ah l e n op (aJ l i) none c j trivial g;exact Ah l e n op j (some (b++[c])) d k (kR _ _ hm ⟨p,trivial⟩) h
theorem uT(l:au)(e:l.length<=8000):∀(n i:Nat) (b ds:List D),lE b->dz n l i b=.inr ds->lE ds
 |0,i,b,ds,c,h=>by simp only[dz] at h;cases h;exact c
 |n+1,i,b,ds,c,h=>by
  simp only[dz] at h;split at h
  .cases h;exact c
  split at h
  .cases h
  .rename_i d k j
   have g:=Ah l e _ 0 (aJ l i) none d k trivial j;exact uT l e n k (b++[d]) ds (kR _ _ c ⟨g,trivial⟩) h
mutual
def pM (M:Nat):E->Prop
 |.const d=>tI d/\kZ d<=M
 |.nothing=>True
 |.var _=>True
 |.ite a b c=>pM M a/\pM M b/\pM M c
 |.define _ a=>pM M a
 |.set _ a=>pM M a
 |.lambda _ xs a=>xs.length<=M/\pM M a
 |.seq es=>mL M es
 |.apply es=>mL M es
def mL (M:Nat):List E->Prop
 |[]=>True
 |e::r=>pM M e/\mL M r
end
theorem qU:∀(a b:List E),mL M a->mL M b->mL M (a++b)
 |[],b,_,h=>h
 |e::r,b,h,k=>⟨h.1,qU r b h.2 k⟩
theorem Dy:∀(l:List E) (i:Nat) (e:E),mL M l->l[i]? =some e->pM M e
 |[],i,e,_,h=>by simp at h
 |a::r,0,e,h,hi=>by simp at hi;exact hi▸h.1
 |a::r,i+1,e,h,hi=>by simp at hi;exact Dy r i e h.2 hi
def GD(M:Nat)(d:D):Prop:=tI d/\kZ d<=M
def GL(M:Nat)(l:List D):Prop:=lE l/\fT l<=M
theorem GL.tail{l:List D}(h:GL M l):GL M l.tail:=by
 match l,h with
 |[],h=>exact h
 |a::r,h=>exact⟨h.1.2,by have:=h.2;simp only[fT] at this;show fT r<=M;omega⟩
theorem GL.cons{d:D}{l:List D}(h:GL M (d::l)):GD M d/\GL M l:=by
 have:=h.2;simp only[fT] at this;exact⟨⟨h.1.1,by omega⟩,h.1.2,by omega⟩
theorem GD.items{d:D}(h:GD M d)(hi:aX d=true):GL M (aE d):=by
 have h1:=js hi;refine⟨?_,by have:=h.2;omega⟩
 match d,hi,h with
 |.agg l,_,h=>exact h.1
 |.slice l _,_,h=>exact h.1
theorem lg(hf:∀d e,GD M d->f d=some e->pM M e):∀(ds:List D) (b:List E),GL M ds->bF f ds=some b->mL M b
 |[],b,_,h=>by cases h;exact trivial
 |d::r,b,g,h=>by
  simp only[bF] at h;split at h
  .rename_i e i
   split at h
   .rename_i es c
    cases h;exact⟨hf d e g.cons.1 i,lg hf r es g.cons.2 c⟩
   .cases h
  .cases h
theorem LB:∀(d:List E) (e:E),JZ d=some e->mL M d->pM M e
 |[],e,h,_=>by cases h
 |[k],e,h,c=>by cases h;exact c.1
 |a::b::r,e,h,c=>by cases h;exact c
theorem Dw(hf:∀d e,GD M d->f d=some e->pM M e)(ds:List D)(e:E)(c:GL M ds)(h:eW f ds=some e):pM M e:=by
 unfold eW at h;cases hk:bF f ds with
 |none=>rw[hk] at h;cases h
 |some b=>
  rw[hk] at h;exact LB b e h (lg hf ds b c hk)
theorem xT:∀(ds:List D),ds.length<=fT ds
 |[]=>ew _
 |d::r=>by have:=xT r;have:=ez d;simp only[fT,j1];omega
theorem vS(hf:∀d e,GD M d->f d=some e->pM M e)(nd ds:List D)(e:E)(c:nd.length<=M)(b:GL M ds)(h:eH f nd ds=some e):pM M e:=by
 unfold eH at h;split at h
 .cases hb:eW f ds with
  |none=>rw[hb] at h;cases h
  |some k=>
   rw[hb] at h;cases h;exact⟨by simpa using c,Dw hf ds k b hb⟩
 .cases h
theorem Hk(s:au)(e:E)(h:pM M e):pM M (G3 s e):=by cases e<;>exact h
theorem NO(b:∀s e,pM M e->pM M (mk s e))(hf:∀d e,GD M d->f d=some e->pM M e):∀(ds:List D) (e:E),GL M ds->zV f mk ds=some e->pM M e
 |[x,a],e,c,h=>by
  simp only[zV] at h;split at h
  .cases hk:f a with
   |none=>rw[hk] at h;cases h
   |some k=>
    rw[hk] at h;cases h;exact b _ _ (hf a k c.cons.2.cons.1 hk)
  .cases h
 |[],e,_,h=>by cases h
 |[_],e,_,h=>by cases h
 |_::_::_::_,e,_,h=>by cases h
theorem GL.snd:∀{l:List D},l.all nK=true->GL M l->GL M (l.map jG)
 |[],_,h=>h
 |b::r,hb,h=>by
  rw[R7,rr] at hb;have h1:=Kv hb.1;obtain⟨e,g⟩:=h.cons;have h3:=h.2;simp only[fT] at h3;have i:=sK r hb.2;have h2:=GL.snd hb.2 g;refine⟨⟨?_,h2.1⟩,by simp only[v6,fT];omega⟩;have c:=hb.1;unfold nK at c;rw[rr] at c;have hi:=GD.items e c.1;obtain⟨x,y,d⟩:=C7 (of_decide_eq_true c.2);rw[d] at hi;unfold jG;rw[d];exact hi.cons.2.cons.1.1
theorem Dx(n:Nat)(i:∀(d:D) (e:E),GD M d->aN n d=some e->pM M e)(l:List D)(e:E)(v:GD M (.agg l))(h:aN (n+1) (.agg l)=some e):pM M e:=by
 have w:GL M l:=⟨v.1,by have:=v.2;simp only[kZ] at this;omega⟩;have g:=w.tail;simp only[aN] at h;split at h
 .match j:l.tail,h with
  |[q],h=>cases h;rw[j] at g;exact g.cons.1
  |[],h=>cases h
  |_::_::_,h=>cases h
 split at h
 .cases hk:bF (aN n) l.tail with
  |none=>rw[hk] at h;cases h
  |some u=>
   rw[hk] at h;have h1:=lg i l.tail u g hk
   match u,h with
   |[a,b],h=>cases h;exact⟨h1.1,h1.2.1,trivial⟩
   |[a,b,c],h=>cases h;exact⟨h1.1,h1.2.1,h1.2.2.1⟩
   |[],h=>cases h
   |[_],h=>cases h
   |_::_::_::_::_,h=>cases h
 split at h
 .exact NO (mk:=.set) (λ_ _ h=>h) i l.tail e g h
 split at h
 .match j:l.tail,h with
  |q::ds,h=>
   rw[j] at g;simp only[wI] at h;split at h
   .rename_i hi
    have h2:=GD.items g.cons.1 hi;exact vS i _ _ e (ku (xT _) h2.2) g.cons.2 h
   .cases h
  |[],h=>cases h
 split at h
 .exact Dw i l.tail e g h
 split at h
 .match j:l.tail,h with
  |q::ds,h=>
   rw[j] at g;simp only[tu] at h;split at h
   .rename_i hi
    have h2:=GD.items g.cons.1 hi
    match y:aE q,h with
    |x::xs,h=>
     rw[y] at h2;simp only[yH] at h;split at h
     .cases hp:eH (aN n) xs ds with
      |none=>rw[hp] at h;cases h
      |some k=>
       rw[hp] at h;cases h;exact Hk _ _ (vS i _ _ k (ku (xT _) h2.cons.2.2) g.cons.2 hp)
     .cases h
    |[],h=>cases h
   .exact NO Hk i (q::ds) e g h
  |[],h=>cases h
 split at h
 .match j:l.tail,h with
  |q::ds,h=>
   rw[j] at g;simp only[rV] at h;split at h
   .rename_i hi
    rw[rr] at hi;have h2:=GD.items g.cons.1 hi.1;split at h
    .rename_i p es hp A
     cases h;exact⟨vS i _ _ p (by rw[ta];exact ku (xT _) h2.2) g.cons.2 hp,lg i _ es (h2.snd hi.2) A⟩
    .cases h
   .cases h
  |[],h=>cases h
 split at h
 .cases h
 .cases hk:bF (aN n) l with
  |none=>rw[hk] at h;cases h
  |some u=>
   rw[hk] at h;cases h;exact lg i l u w hk
theorem qS:∀(n:Nat) (d:D) (e:E),GD M d->aN n d=some e->pM M e
 |0,d,e,_,h=>by cases h
 |n+1,.agg l,e,c,h=>Dx n (qS n) l e c h
 |n+1,.slice l _,e,c,h=>Dx n (qS n) l e c h
 |n+1,.lit (.string s),e,c,h=>by
  simp only[aN] at h;split at h
  .cases h
  .cases h;exact trivial
 |n+1,.lit (.int k m),e,c,h=>by cases h;exact c
 |n+1,.lit (.bool b),e,c,h=>by cases h;exact c
 |n+1,.lit (.float a b),e,c,h=>by cases h;exact c
 |n+1,.lit .nil,e,c,h=>by cases h;exact c
 |n+1,.nil,e,c,h=>by cases h;exact c
 |n+1,.ptr _,e,c,h=>by cases h;exact c
 |n+1,.iface _ _,e,c,h=>by cases h;exact c
 |n+1,.map _,e,c,h=>by cases h;exact c
 |n+1,.held _,e,c,h=>by cases h;exact c
def GB(M:Nat)(st:BS):Prop:=qY (M+1) st.cs=true/\st.ls.all (λl=>decide (l.2.1.length<=M))=true/\mL M st.bs
theorem nY(N:Nat)(c:Option D):∀(cs:List (Option D)),qY N cs=true->(∀d,c=some d->yz N d=true)->qY N (cs++[c])=true
 |[],_,b=>by
  cases c with
  |none=>rfl
  |some d=>simp[qY,b d rfl]
 |none::r,h,b=>by simp only[s6,qY] at h ⊢;exact nY N c r h b
 |some d::r,h,b=>by
  simp only[s6,qY,rr] at h ⊢;exact⟨h.1,nY N c r h.2 b⟩
theorem GB.emit{st:BS}(h:GB M st)(op n:Int):GB M (am st op n):=h
theorem GB.cS{st:BS}(h:GB M st)(i:Nat):GB M (aF st i):=h
theorem GB.name{st:BS}(h:GB M st)(s:au):GB M (bh st s):=h
theorem GB.ends{st:BS}(h:GB M st)(last:Bool):GB M (fW st last):=by unfold fW;split<;>exact h
theorem GB.const{st:BS}(h:GB M st)(c:Option D)(b:∀d,c=some d->GD M d):GB M (bM st c):=
 ⟨nY _ c st.cs h.1 (λd e=>BA _ d (b d e).1 (by have:=(b d e).2;omega)),h.2⟩
theorem uM:∀(xs:List au) (st:BS),(gd st xs).length=xs.length
 |[],st=>rfl
 |s::r,st=>by simp only[gd,j1,uM r]
theorem GB.lam{st:BS}(h:GB M st)(nm:au)(xs:List au)(a:E)(c:xs.length<=M)(b:pM M a):GB M (dF st nm xs a):=by
 obtain⟨h1,h2,h3,d,e⟩:=bW xs st;refine⟨by simp only[dF,h2];exact h.1,?_,?_⟩
 .simp only[dF,SP,R7,List.all_nil,TC,rr,PN,uM];exact⟨h.2.1,c⟩
 .exact qU _ _ h.2.2 ⟨b,trivial⟩
theorem GB.entry{st:BS}(h:GB M st)(i:Nat):GB M (bv st i):=by
 refine⟨h.1,?_,h.2.2⟩;have h2:=h.2.1;simp only[RT,PN] at h2 ⊢;intro l b;by_cases hi:i<st.ls.length
 .rcases SW b with b|rfl
  .exact h2 l b
  .show((st.ls.getD i ([],[],0)).2.1).length<=M;rw[pk,fA hi];exact h2 _ (Sj hi)
 .have:(bv st i).ls=st.ls:=by simp only[bv];exact List.set_eq_of_length_le (by omega)
  rw[this] at b;exact h2 l b
mutual
theorem iX {M:Nat}:∀(e:E) (last:Bool) (st:BS),pM M e->GB M st->GB M (aL e last st)
 |.const d,last,st,f,h=>((h.const (some d) (λi g=>by cases g;exact f)).emit _ _).ends last
 |.nothing,last,st,f,h=>((h.const none (λi g=>by cases g)).emit _ _).ends last
 |.var s,last,st,f,h=>((h.name s).emit _ _).ends last
 |.lambda nm xs a,last,st,f,h=>((h.lam nm xs a f.1 f.2).emit _ _).ends last
 |.define s a,last,st,f,h=>((((iX a false _ f (h.emit 4 0)).cS _).name s).emit _ _).ends last
 |.set s a,last,st,f,h=>((((iX a false _ f (h.emit 4 0)).cS _).name s).emit _ _).ends last
 |.ite a b c,last,st,f,h=>iX c true _ f.2.2 ((iX b true _ f.2.1 (((iX a false _ f.1 (h.emit 4 0)).cS _).emit 8 0)).cS _)
 |.seq es,last,st,f,h=>Iv es 4 last st f h
 |.apply es,last,st,f,h=>((Iu es 4 st f h).emit 11 0).emit 12 0
theorem Iv {M:Nat}:∀(es:List E) (op:Int) (last:Bool) (st:BS),mL M es->GB M st->GB M (eS es op last st)
 |[],op,last,st,f,h=>h
 |[e],op,last,st,f,h=>iX e last _ f.1 (h.emit 7 0)
 |e::e2::r,op,last,st,f,h=>Iv (e2::r) 6 last _ f.2 ((iX e false _ f.1 (h.emit op 0)).cS _)
theorem Iu {M:Nat}:∀(es:List E) (op:Int) (st:BS),mL M es->GB M st->GB M (fE es op st)
 |[],op,st,f,h=>h
 |e::r,op,st,f,h=>Iu r 5 _ f.2 ((iX e false _ f.1 (h.emit op 0)).cS _)
end
theorem za:∀(es:List E) (st:BS),mL M es->GB M st->GB M (ce es st)
 |[],st,b,h=>h
 |e::r,st,b,h=>za r _ b.2 ((iX e true _ b.1 (h.emit 0 0)).cS _)
theorem uu:∀(n i:Nat) (st:BS),GB M st->GB M (bY n i st)
 |0,i,st,h=>h
 |n+1,i,st,h=>by
  rw[bY];split
  .rename_i e b
   exact uu n (i+1) _ (iX e true _ (Dy _ _ _ h.2.2 b) (h.entry i))
  .exact h
theorem pE:∀(n i:Nat) (st:BS),st.size+8 *bG (st.bs.drop i)<=100000->st.eh<=100000+i *100000->(bY n i st).size<=100000
 |0,i,st,h,_=>by simp only[bY];omega
 |n+1,i,st,h,hp=>by
  rw[bY];split
  .rename_i e b
   obtain⟨hi,rfl⟩:=ke.1 b;obtain⟨h1,h2,h3,c⟩:=yq hi h hp;exact pE n (i+1) _ h2 h3
  .omega
theorem EE(b:List E)(h:8 *bG b+1<=100000):(dY b).size<=100000:=by
 have h1:=oK b BS.new;have c:BS.new.eh=0:=rfl;have h2:(am (ce b BS.new) 14 0).eh<=100000:=by rw[bu];omega
 exact pE _ 0 _ (by rw[RQ];exact h2) (by omega)
theorem EH(f:List D)(b:List E)(l:lE f)(i:fT f<=8000)(h:bF (aN 21) f=some b):Hi 8001 (dY b)=true/\fu b/\bG b<=8000/\(dY b).size<=100000:=by
 have j:mL 8000 b:=lg (M:=8000) (λd e=>qS 21 d e) f b ⟨l,i⟩ h;have k:bG b<=8000:=ku (jK (λd e=>nH 21 d e) f b h) i;have g:=EE b (by omega);have c:GB 8000 (dY b):=uu _ _ _ ((za b BS.new j ⟨rfl,rfl,trivial⟩).emit 14 0);refine⟨?_,(lA (λd e=>sQ 21 d e) f b h).1,k,g⟩;have q:(dY b).is.length+(dY b).cs.length+(dY b).ns.length+(dY b).ls.length<=100000:=g;simp only[Hi,rr,PN];refine⟨⟨⟨⟨⟨by omega,by omega⟩,by omega⟩,by omega⟩,?_⟩,c.1⟩;have h2:=c.2.1;simp only[RT,PN] at h2 ⊢;intro x p;have:=h2 x p;omega
def up(g:Nat):Nat->Nat
 |0=>0
 |i+1=>i+1+g
def En.up(g:Nat)(e:En):En:=⟨Go.Proofs.YtlobegpjenabaaaGreatDoor.up g e.fr,e.nx,e.got⟩
def Fr.up(g:Nat)(f:Fr):Fr:=⟨f.ns,f.vs,f.out.map (Go.Proofs.YtlobegpjenabaaaGreatDoor.up g)⟩
def PK.up(g:Nat):PK->PK
 |.first k=>.first k
 |.clo l f=>.clo l (Go.Proofs.YtlobegpjenabaaaGreatDoor.up g f)
 |.kont st=>.kont (st.map (En.up g))
def Rz(G:List Fr):List Fr->List Fr
 |[]=>[]
 |f::r=>f.up G.length::(G++r.map (Fr.up G.length))
def sh(G:List Fr)(s:MS):MS:={s with fr:=up G.length s.fr,st:=s.st.map (En.up G.length),frs:=Rz G s.frs,obs:=s.obs.map (Option.map (PK.up G.length))}
def QA(C:Cd):RR->Nat->Nat->RR->Prop
 |.run s,n,m,a=>∃F,kI C F s n 0=some (m,a)
 |.done t o,n,m,a=>m=0/\a=.done t o
 |.err e d o,n,m,a=>m=0/\a=.err e d o
def GO(z:BS)(vs:List V):RR->Prop
 |.run s=>(∃x,Rel z vs s x)/\0<s.st.length
 |_=>True
def MW(B K:Nat)(w:aa)(X:a9)(ow:Nat->Option Nat)(M b:Nat)(C:Cd):RR->Prop
 |.run s=>MR B K w X ow M b C s
 |.done t o=>ME B w X ow M b 1 0 0 t o
 |.err er d o=>ME B w X ow M b 2 er d [] o
theorem MW.below{w:aa}{X:a9}{b:Nat}(h:MW B K w X ow M b C r)(hb:Below w.heap.size w w'):MW B K w' X ow M b C r:=by
 cases r with
 |run s=>exact MR.below h hb
 |done t o=>exact ME.below h hb
 |err e d o=>exact ME.below h hb
theorem MW.own{w:aa}{X:a9}{b:Nat}(h:MW B K w X ow M b C r):(∀k t,ow k=some t->X k)/\mu w B X:=by
 cases r with
 |run s=>exact MR.own h
 |done t o=>obtain⟨_,_,_,h1,h2,_⟩:=h;exact⟨h1,h2⟩
 |err e d o=>obtain⟨_,_,_,h1,h2,_⟩:=h;exact⟨h1,h2⟩
theorem MW.ki{w:aa}{X:a9}{b:Nat}(h:MW B K w X ow M b C r)(c:Gw X ow w X' ow' w'):KI w w':=RS.Mg (K:=K) h.own.2 h.own.1 c
theorem MW.lt{w:aa}{X:a9}{b:Nat}(h:MW B K w X ow M b C r):B<=w.heap.size:=by
 cases r with
 |run s=>
  obtain⟨mo,mf,val,app,args,out,top,gf,c,hR⟩:=h;have:=(hR.xty M (hR.owx M 0 hR.owM)).1;have:=ai c;omega
 |done t o=>
  obtain⟨out,c,_,h1,h2,h3,_⟩:=h;have:=(h2 M (h1 M 0 h3)).1;have:=ai c;omega
 |err e d o=>
  obtain⟨out,c,_,h1,h2,h3,_⟩:=h;have:=(h2 M (h1 M 0 h3)).1;have:=ai c;omega
theorem MW.other{w:aa}{X:a9}{b:Nat}(h:MW B K w X o2 M b C r)(i:Gw X o1 w X' o1' w')(g:fq o1 o2)(h1:∀k t,o1 k=some t->X k)(c:mu w' B X'):MW B K w' X' o2 M b C r:=by
 cases r with
 |run s=>exact MR.other h i g h1 c
 |done t o=>exact ME.other h i g h1 c
 |err e d o=>exact ME.other h i g h1 c
def QU(B K:Nat)(X:a9)(ow:Nat->Option Nat)(w:aa)(L M b:Nat)(C:Cd)(m:Nat)(c:RR)(x y:al)(a:aa):Prop:=x=Jn (m:Nat)/\y=Jn 0/\∃X' ow',MW B K a X' ow' M b C c/\Gw X ow w X' ow' a
theorem Gw.aj{X:a9}{w:aa}(hb:Below w.heap.size w w'):Gw X ow w X ow w':=(Gw.refl X ow w).below hb
theorem Pa{w:aa}{X:a9}{b:Nat}(h:MW B K w X ow M b C r)(p:ErrT w)(hB:0<B)(l:LM w L M)(j:n<=100000)(c:QA C r n m r'):
  cl 27 #[Pt L,Jn n] w (Ex (QU B K X ow w L M b C m r')):=by
 refine DR w L M n _ l (ag ?_);cases r with
 |run s=>
  obtain⟨F,c⟩:=c;cases r' with
  |run s'=>
   refine(JT h n F j m (.run s') c (λ_ _ _ e=>by cases e)).mono ?_;rintro e k ⟨rfl,X',ow',i,g⟩;exact⟨_,_,rfl,rfl,rfl,X',ow',i,g⟩
  |done t o=>
   refine(JT h n F j m (.done t o) c (λ_ _ _ e=>by cases e)).mono ?_;rintro e k ⟨rfl,X',ow',i,g⟩;exact⟨_,_,rfl,rfl,rfl,X',ow',i,g⟩
  |err er d o=>
   refine(Nh h p hB n F j m er d o c).mono ?_;rintro e k ⟨rfl,X',ow',i,g⟩;exact⟨_,_,rfl,rfl,rfl,X',ow',i,g⟩
 |done t o=>
  obtain⟨rfl,rfl⟩:=c;refine(D9 (by rfl) h n j).mono ?_;rintro e k ⟨rfl,hb⟩;exact⟨_,_,rfl,rfl,rfl,X,ow,MW.below (r:=.done t o) h hb,Gw.aj hb⟩
 |err er d o=>
  obtain⟨rfl,rfl⟩:=c;refine(D9 (by rfl) h n j).mono ?_;rintro e k ⟨rfl,hb⟩;exact⟨_,_,rfl,rfl,rfl,X,ow,MW.below (r:=.err er d o) h hb,Gw.aj hb⟩
def QF:RR->Int
 |.run _=>0
 |.done _ _=>1
 |.err _ _ _=>2
def QE:RR->Int
 |.run _=>0
 |.done _ _=>0
 |.err e _ _=>e
def Qt:RR->Int
 |.run s=>((s.st.length-1:Nat):Int)
 |.done _ _=>0
 |.err _ d _=>(d:Int)
def QG:RR->ao
 |.run _=>⟨#[]⟩
 |.done t _=>⟨t.toArray⟩
 |.err _ _ _=>⟨#[]⟩
def Qu:RR->List au
 |.run s=>s.out
 |.done _ o=>o
 |.err _ _ o=>o
theorem IZ{w:aa}{X:a9}{b:Nat}(h:MW B K w X ow M b (dp z vs) r)(hS:GO z vs r)(c:LM w L M):
  cl 28 #[Pt L] w (qF w (QF r) (QE r) (Qt r) (QG r)):=by
 cases r with
 |run s=>exact Fm h c hS.2
 |done t o=>exact uK (by rfl) h c
 |err e d o=>exact uK (by rfl) h c
theorem MH{w:aa}{X:a9}{b:Nat}(h:MW B K w X ow M b C r)(l:LM w L M):
  cl 43 #[Pt L] w (Eu w ((Qu r).map bO)):=by
 have key:∀(c:bc) (out:al) (o:List au),w.heap[M]? =some (Obj.cells c 119 (0,0))->c[7]? =some out->lC w B ow out o->cl 43 #[Pt L] w (Eu w (o.map bO)):=by
  intro c out o g k i;refine Mr w L M _ l (ag ?_);obtain⟨h1,_,h3⟩:=i;obtain⟨a,j,rfl,_,_,_⟩:=ay h1;exact Fv (by unfold Cl;rw[ae g];exact k) h1 h3
 cases r with
 |run s=>
  obtain⟨mo,mf,val,app,args,out,top,gf,g,hR⟩:=h;exact key _ _ _ g rfl hR.out
 |done t o=>obtain⟨out,g,i,_⟩:=h;exact key _ _ _ g rfl i
 |err e d o=>obtain⟨out,g,i,_⟩:=h;exact key _ _ _ g rfl i
theorem Code.up{w:aa}{X:a9}{b:Nat}(h:Code K w X b C):Code w.heap.size w X b C:=by
 obtain⟨c,u0,u1,u2,u3,x1,x3,h⟩:=h;refine⟨c,u0,u1,u2,u3,x1,x3,h.hS,h.c0,h.c1,h.c2,h.c3,h.r0,h.r1,eV.ak (λ_ _ h=>h) (λi g hi=> ?_) _ _ h.v1,h.r2,h.r3,h.l3,h.li,h.ln,h.lc,h.ll,ew _⟩;unfold jj at hi ⊢;split at hi
 .rename_i d
  rw[fN ⟨d.1,by have:=h.lb;omega⟩];exact hi
 .cases hi
theorem dK{w:aa}{s:Nat}{v:al}(h:w.ownsRow B T s v n xs)(l:∀k,v.ownBlock=some k->w'.heap[k]? =w.heap[k]?):w'.ownsRow B T s v n xs:=by
 obtain⟨c,h1⟩:=h;rcases h1 with h1|⟨g,b,d,h3,e,i,j⟩
 .exact⟨c,.inl h1⟩
 .exact⟨c,.inr ⟨g,b,d,h3,e,by rw[l g (by rw[h3];rfl)];exact i,j⟩⟩
structure Sl where
 a:a8
 n:Nat
 c:Nat
structure Vc where
 k:Int
 n:Int
 s:ao
 p:a8
 f:a8
def Vc.c(v:Vc):bc:= #[.int .i64 v.k,.int .i64 v.n,.string v.s,.pointer v.p,.pointer v.f]
structure Rm where
 fo:Sl
 form:Int
 st:Int
 er:Int
 mode:Int
 v:Vc
 fr:a8
 ch:a8
 args:Sl
 made:Int
 gl:a8
 out:Sl
 last:ao
def Rm.c(m:Rm):bc:= #[.slice m.fo.a m.fo.n m.fo.c,.int .i64 m.form,.int .i64 m.st,.int .i64 m.er,.int .i64 m.mode,.int .i64 m.v.k,.int .i64 m.v.n,.string m.v.s,.pointer m.v.p,.pointer m.v.f,.pointer m.fr,.pointer m.ch,.slice m.args.a m.args.n m.args.c,.int .i64 m.made,.pointer m.gl,.slice m.out.a m.out.n m.out.c,.string m.last]
def aI(w:aa)(M:Nat)(m:Rm):Prop:=w.heap[M]? =some (Obj.cells m.c 168 (0,0))
theorem aI.set{w:aa}{m:Rm}(h:aI w M m)(o:Nat)(v:al)(b:Rm)(hm:m.c.setIfInBounds o v=b.c):aI (w.setCell (dq M o) v) M b:=by
 unfold aI at *;rw[TH h,hm]
theorem bE{w:aa}{b:Rm}(h:w.heap[M]? =some (.cells c' 168))(d:c'=b.c):aI w M b:=by
 unfold aI;rw[h,d]
theorem aI.alloc{w:aa}{m:Rm}(h:aI w M m)(o:Obj):aI (w.alloc o) M m:=aw h
theorem aI.lt{w:aa}{m:Rm}(h:aI w M m):M<w.heap.size:=ai h
theorem aI.fz{w:aa}{m:Rm}(h:aI w M m)(o:Nat):w.frozen? (dq M o)=false:=ah h o
theorem aI.cell{w:aa}{m:Rm}(h:aI w M m)(o:Nat):w.cell? (dq M o)=m.c[o]?:=ae h o
theorem kv{w:aa}{m:Rm}{c:Vc}(h:aI w M m)(b:m.v=c)(i:Nat)(v:al)(e:({m with v:=c}:Rm).c[i]? =some v:=by rfl):Cl w M i v:=by subst b;exact kd h i v e
def MU(w:aa)(M:Nat)(a:Rm)(e:bo)(w':aa):Prop:=e=.returned (.tuple #[])/\aI w' M a/\aB (λk=>k=M) w w'
theorem aB.aY{w:aa}{v:al}(h:aB (λk=>k=M) w w1):aB (λk=>k=M) w (w1.setCell (dq M o) v):=h.setCell (dq M o) v (λ_=>rfl)
theorem fh(w:aa)(M:Nat)(m:Rm)(e:Int)(h:aI w M m):cl 179 #[Pt M,Jn e] w (MU w M {m with st:=2,er:=e}):=by
 have k2:=kd h 2 (Jn m.st);have k3:=kd h 3 (Jn m.er);have hf:=h.fz;have b:=ag h;clear h;go_enter func179,ntmps179;go_wp2;refine TT ?_;exact⟨rfl,(b.out.set 2 _ {m with st:=2} rfl).set 3 _ _ rfl,(TU _ _).aY.aY⟩
theorem dL(w:aa)(M:Nat)(m:Rm)(c:Vc)(h:aI w M m):cl 180 #[Pt M,.agg #[Jn c.k,Jn c.n,.string c.s,.pointer c.p,.pointer c.f]] w (MU w M {m with mode:=2,v:=c}):=by
 have d:=h.lt;have e:=kd h 4 (Jn m.mode);have g:=kd h 5 (Jn m.v.k);have k6:=kd h 6 (Jn m.v.n);have i:=kd h 7 (.string m.v.s);have j:=kd h 8 (.pointer m.v.p);have l:=kd h 9 (.pointer m.v.f);have hf:=h.fz;have b:=ag h;clear h;go_enter func180,ntmps180;go_wp2;refine TT ?_;exact⟨rfl,bE (aw (TH (TH (TH (TH (TH (TH b.out))))))) (by kernel_rfl),((TU _ _).aY.aY.aY.aY.aY.aY).alloc _⟩
theorem ij(w:aa)(M:Nat)(m:Rm)(c:Vc)(f:a8)(h:aI w M m):cl 110 #[Pt M,.agg #[Jn c.k,Jn c.n,.string c.s,.pointer c.p,.pointer c.f],.pointer f] w (MU w M {m with mode:=1,v:=c,fr:=f}):=by
 have d:=h.lt;have e:=kd h 4 (Jn m.mode);have g:=kd h 5 (Jn m.v.k);have k6:=kd h 6 (Jn m.v.n);have i:=kd h 7 (.string m.v.s);have j:=kd h 8 (.pointer m.v.p);have l:=kd h 9 (.pointer m.v.f);have k10:=kd h 10 (.pointer m.fr);have hf:=h.fz;have b:=ag h;clear h;go_enter func110,ntmps110;go_wp2;refine TT ?_;exact⟨rfl,bE (aw (TH (TH (TH (TH (TH (TH (TH b.out)))))))) (by kernel_rfl),((TU _ _).aY.aY.aY.aY.aY.aY.aY).alloc _⟩
structure Kc where
 kind:Int
 name:ao
 l:Sl
 vals:Sl
 fr:a8
 next:a8
 deep:Int
def Kc.c(k:Kc):bc:= #[.int .i64 k.kind,.string k.name,.slice k.l.a k.l.n k.l.c,.int .i64 0,.slice k.vals.a k.vals.n k.vals.c,.pointer k.fr,.pointer k.next,.int .i64 k.deep]
def di(w:aa)(g:Nat)(k:Kc):Prop:=w.heap[g]? =some (Obj.cells k.c 299 (0,0))
def cL(w:aa)(ch:a8)(d:Nat):Prop:=(ch=none/\d=0)\/∃g k,ch=eb g/\di w g k/\k.deep=(d:Int)
theorem cL.upd{w:aa}{m:Rm}{ch:a8}{d:Nat}(h:cL w ch d)(b:aI w M m)(j:aB (λk=>k=M) w w'):cL w' ch d:=by
 rcases h with h|⟨g,k,h1,h2,h3⟩
 .exact .inl h
 .refine .inr ⟨g,k,h1,j.at h2 (λe=> ?_),h3⟩;subst e;unfold aI at b;unfold di at h2;rw[b] at h2;injection h2 with c;injection c with l i;exact absurd i (by decide)
theorem oN(w:aa)(ch:a8)(d:Nat)(h:cL w ch d):cl 114 #[.pointer ch] w (bD (Jn d) w):=by
 rcases h with⟨rfl,rfl⟩|⟨g,k,rfl,c,b⟩
 .go_enter func114,ntmps114;go_wp2;go_ret;exact⟨rfl,rfl⟩
 .have e:w.cell? (dq g 7)=some (Jn d):=by rw[<-b];exact ae c 7
  clear c b;go_enter func114,ntmps114;go_wp2;go_ret;exact⟨rfl,rfl⟩
def NJ(w:aa)(M:Nat)(m:Rm)(k:Kc)(c:Vc)(d:Nat)(e:bo)(w':aa):Prop:=
 e=.returned (.tuple #[])/\di w' w.heap.size {k with fr:=m.fr,next:=m.ch,deep:=(d:Int)+1}/\aI w' M {m with ch:=eb w.heap.size,mode:=1,v:=c}/\aB (λk=>k=M) w w'
theorem FR(w:aa)(M:Nat)(m:Rm)(k:Kc)(c:Vc)(d:Nat)(X:d<200)(h:aI w M m)(P:cL w m.ch d):cl 181 #[Pt M,.agg k.c,.agg c.c] w (NJ w M m k c d):=by
 have Z:=h.lt;have k10:=kd h 10 (.pointer m.fr);have k11:=kd h 11 (.pointer m.ch);have hf:=h.fz;have G:Hid (∀W:aa,aB (λk=>k=M) w W->cl 114 #[.pointer m.ch] W (bD (Jn d) W)):=λW F=>oN W m.ch d (P.upd h F);have S:=ag h;have V:¬((200:Int)<=(d:Int)):=by omega
 clear h P;unfold Kc.c Vc.c;go_enter func181,ntmps181;go_wp2_with fail;refine(G.out _ (((TU _ _).alloc _).alloc _)).mono ?_;rintro e w1 ⟨rfl,rfl⟩;go_wp2_with fail;refine(G.out _ (((TU _ _).alloc _).alloc _)).mono ?_;rintro e w1 ⟨rfl,rfl⟩;obtain⟨W,v⟩:∃W,W=((w.setCell (dq M 11) (Pt w.heap.size)).alloc (Obj.cells ({k with fr:=m.fr,next:=m.ch,deep:=(d:Int)+1}:Kc).c 299)).alloc (Obj.cells c.c 96):=⟨_,rfl⟩;have i:aI W M {m with ch:=eb w.heap.size}:=by
  rw[v];exact bE (aw (aw (TH S.out))) (by kernel_rfl)
 have D:di W w.heap.size {k with fr:=m.fr,next:=m.ch,deep:=(d:Int)+1}:=by
  rw[v];have y:=fK (w.setCell (dq M 11) (Pt w.heap.size)) (Obj.cells ({k with fr:=m.fr,next:=m.ch,deep:=(d:Int)+1}:Kc).c 299);rw[show(w.setCell (dq M 11) (Pt w.heap.size)).heap.size=w.heap.size by simp[World.setCell]] at y;exact aw y
 have E:aB (λk=>k=M) w W:=by
  rw[v];exact(((TU _ _).aY).alloc _).alloc _
 have b:W.heap[w.heap.size+1]? =some (.cells c.c 96):=by
  rw[v];have y:=fK ((w.setCell (dq M 11) (Pt w.heap.size)).alloc (Obj.cells ({k with fr:=m.fr,next:=m.ch,deep:=(d:Int)+1}:Kc).c 299)) (Obj.cells c.c 96);rw[show((w.setCell (dq M 11) (Pt w.heap.size)).alloc (Obj.cells ({k with fr:=m.fr,next:=m.ch,deep:=(d:Int)+1}:Kc).c 299)).heap.size=w.heap.size+1 by simp[World.setCell]] at y;exact y
 have U:=ag (ij W.drew M _ c m.fr i);have H:=ag (ei D (ei E i));have I:=ag v;have q10:=kd i 10 (.pointer m.fr);have J:=kd b 0 (Jn c.k);have b1:=kd b 1 (Jn c.n);have b2:=kd b 2 (.string c.s);have N:=kd b 3 (.pointer c.p);have O:=kd b 4 (.pointer c.f);have R:Hid (∀g,aB (λk=>k=M) W.drew g->Cl g (w.heap.size+1) 0 (Jn c.k)/\Cl g (w.heap.size+1) 1 (Jn c.n)/\Cl g (w.heap.size+1) 2 (.string c.s)/\Cl g (w.heap.size+1) 3 (.pointer c.p)/\Cl g (w.heap.size+1) 4 (.pointer c.f)):=λg F=>by
  have A:=F.at (k:=w.heap.size+1) b (by omega);exact⟨ae A 0,ae A 1,ae A 2,ae A 3,ae A 4⟩
 clear i D E v b;go_wp2_with fail;have u:=I.out;simp only[Kc.c,Vc.c] at u;rw[<-u];clear u I;go_region_held3 (λx=>Cl x M 10 (.pointer m.fr)/\Cl x (w.heap.size+1) 0 (Jn c.k)/\Cl x (w.heap.size+1) 1 (Jn c.n)/\Cl x (w.heap.size+1) 2 (.string c.s)/\Cl x (w.heap.size+1) 3 (.pointer c.p)/\Cl x (w.heap.size+1) 4 (.pointer c.f)) (first|go_keep|(exact⟨q10,J,b1,b2,N,O⟩)) (first|(go_at_call 110;refine U.out.mono ?_;rintro e g ⟨rfl,l,q⟩;have q10:Cl g M 10 (.pointer m.fr):=l.cell 10;obtain⟨J,b1,b2,N,O⟩:=R.out g q;have j:=ag (ei l q);clear l q))
 all_goals
  go_wp2;refine TT ?_;refine⟨rfl,j.out.2.at (k:=w.heap.size) H.out.1 (by omega),j.out.1,H.out.2.1.drew.trans j.out.2 (λ_ _ h=>h)⟩
theorem CR(w:aa)(M:Nat)(m:Rm)(k:Kc)(c:Vc)(d:Nat)(u:200<=d)(h:aI w M m)(b:cL w m.ch d):cl 181 #[Pt M,.agg k.c,.agg c.c] w (MU w M {m with st:=2,er:=9}):=by
 have v:=h.lt;have k11:=kd h 11 (.pointer m.ch);have g:Hid (∀W:aa,aB (λk=>k=M) w W->cl 114 #[.pointer m.ch] W (bD (Jn d) W)):=λW q=>oN W m.ch d (b.upd h q);have i:Hid (∀W:aa,aI W M m->cl 179 #[Pt M,Jn 9] W (MU W M {m with st:=2,er:=9})):=λW l=>fh W M m 9 l;have j:=ag h;have p:(200:Int)<=(d:Int):=by omega
 clear h b;unfold Kc.c Vc.c;go_enter func181,ntmps181;go_wp2_with fail;refine(g.out _ (((TU _ _).alloc _).alloc _)).mono ?_;rintro e w1 ⟨rfl,rfl⟩;go_wp2_with fail;refine(i.out _ ((j.out.alloc _).alloc _)).mono ?_;rintro e w1 ⟨rfl,h1,h2⟩;have HM:=ag (ei h1 ((((TU (λk=>k=M) w).alloc _).alloc _).trans h2 (λ_ _ h=>h)));clear h1 h2;go_wp2;refine TT ?_;exact⟨rfl,HM.out.1,HM.out.2⟩
def Sl.v(u:Sl):al:=.slice u.a u.n u.c
structure tY where
 names:Sl
 body:Sl
 fr:a8
 ch:a8
 form:Int
def tY.c(p:tY):bc:= #[.slice p.names.a p.names.n p.names.c,.slice p.body.a p.body.n p.body.c,.pointer p.fr,.pointer p.ch,.int .i64 p.form]
def b9(w:aa)(g:Nat)(p:tY):Prop:=w.heap[g]? =some (Obj.cells p.c 307 (0,0))
def gY(w:aa)(g:Nat)(a b:Vc):Prop:=w.heap[g]? =some (Obj.cells (a.c++b.c) 162 (0,0))
def cQ(k n:Int):Vc:=⟨k,n,⟨#[]⟩,none,none⟩
def dy(t:au):Vc:=⟨3,0,⟨t.toArray⟩,none,none⟩
def eg(g:Nat):Vc:=⟨5,0,⟨#[]⟩,some ⟨g,0,none⟩,none⟩
def RX(w:aa)(mo:Nat->Option Nat):V->Vc->Prop
 |.int k,c=>c=cQ 1 k/\-9223372036854775808<=k/\k<=9223372036854775807
 |.bool b,c=>c=cQ 2 (if b then 1 else 0)
 |.sym t,c=>c=dy t/\t.length<=8000
 |.empty,c=>c=cQ 4 0
 |.nothing,c=>c=cQ 9 0
 |.pair id a b,c=>∃g x y,mo id=some g/\c=eg g/\gY w g x y/\RX w mo a x/\RX w mo b y
 |.proc id,c=>(∃k s,id=2 *k/\aP[k]? =some s/\c=⟨7,0,⟨s.toArray⟩,none,none⟩)\/(28<=id/\id%2=0/\∃g p,mo id=some g/\b9 w g p/\c=⟨if p.fr.isSome then 6 else 8,0,⟨#[]⟩,none,some ⟨g,0,none⟩⟩)
structure KR(w w':aa):Prop where
 pair:aC 162 w w'
 proc:aC 307 w w'
 chain:aC 299 w w'
theorem KR.trans{b c:aa}(h:KR a b)(k:KR b c):KR a c:=⟨h.pair.trans k.pair,h.proc.trans k.proc,h.chain.trans k.chain⟩
theorem KR.aj{w:aa}(h:Below w.heap.size w w'):KR w w':=⟨TX h,TX h,TX h⟩
def T6:=@KR.aj
theorem RX.ak{w:aa}(k:KR w w')(hm:Le mo mo'):∀(v:V) (c:Vc),RX w mo v c->RX w' mo' v c
 |.int _,_,h=>h
 |.bool _,_,h=>h
 |.sym _,_,h=>h
 |.empty,_,h=>h
 |.nothing,_,h=>h
 |.pair id a b,_,⟨g,x,y,h1,h2,h3,d,i⟩=>⟨g,x,y,hm _ _ h1,h2,k.pair _ _ h3,RX.ak k hm a x d,RX.ak k hm b y i⟩
 |.proc id,_,.inl h=>.inl h
 |.proc id,_,.inr ⟨e,h1,g,p,h2,h3,d⟩=>.inr ⟨e,h1,g,p,hm _ _ h2,k.proc _ _ h3,d⟩
def T5:=@RX.ak
def fU(w:aa)(mo:Nat->Option Nat):List V->List Vc->Prop
 |[],[]=>True
 |v::vs,c::cs=>RX w mo v c/\fU w mo vs cs
 |_,_=>False
theorem fU.ak{w:aa}(k:KR w w')(hm:Le mo mo'):∀(v:List V) (c:List Vc),fU w mo v c->fU w' mo' v c
 |[],[],_=>trivial
 |v::vs,c::cs,h=>⟨T5 k hm v c h.1,fU.ak k hm vs cs h.2⟩
 |[],_::_,h=>h.elim
 |_::_,[],h=>h.elim
theorem fU.length{w:aa}:∀{v:List V} {c:List Vc},fU w mo v c->v.length=c.length
 |[],[],_=>rfl
 |_::_,_::_,h=>by simp[fU.length h.2]
 |[],_::_,h=>h.elim
 |_::_,[],h=>h.elim
theorem fU.append{w:aa}:∀{v b:List V} {c c':List Vc},fU w mo v c->fU w mo b c'->fU w mo (v++b) (c++c')
 |[],_,[],_,_,h=>h
 |_::_,_,_::_,_,h,k=>⟨h.1,fU.append h.2 k⟩
 |[],_,_::_,_,h,_=>h.elim
 |_::_,_,[],_,h,_=>h.elim
theorem fU.get{w:aa}:∀{v:List V} {c:List Vc} (i:Nat) (a:V),fU w mo v c->v[i]? =some a->∃x,c[i]? =some x/\RX w mo a x
 |[],[],i,a,_,h=>by simp at h
 |v::vs,c::cs,0,a,h,hi=>by simp at hi;subst hi;exact⟨c,rfl,h.1⟩
 |v::vs,c::cs,i+1,a,h,hi=>by simpa using fU.get i a h.2 (by simpa using hi)
 |[],_::_,_,_,h,_=>h.elim
 |_::_,[],_,_,h,_=>h.elim
theorem fU.set{w:aa}:∀{v:List V} {c:List Vc} (i:Nat) (a:V) (x:Vc),fU w mo v c->RX w mo a x->fU w mo (v.set i a) (c.set i x)
 |[],[],_,_,_,_,_=>trivial
 |v::vs,c::cs,0,a,x,h,k=>⟨k,h.2⟩
 |v::vs,c::cs,i+1,a,x,h,k=>⟨h.1,fU.set i a x h.2 k⟩
 |[],_::_,_,_,_,h,_=>h.elim
 |_::_,[],_,_,_,h,_=>h.elim
def eC(w:aa):Vc->List Vc->Prop
 |c,[]=>c=cQ 4 0
 |c,x::r=>∃g y,c=eg g/\gY w g x y/\eC w y r
theorem eC.ak{w:aa}(k:KR w w'):∀(l:List Vc) (c:Vc),eC w c l->eC w' c l
 |[],_,h=>h
 |x::r,_,⟨g,y,h1,h2,h3⟩=>⟨g,y,h1,k.pair _ _ h2,eC.ak k r y h3⟩
def T4:=@eC.ak
def kL:au:=[113,117,111,116,101]
def Qg:au:=[105,102]
def Md:au:=[115,101,116,33]
def cz:au:=[108,97,109,98,100,97]
def kK:au:=[98,101,103,105,110]
def mX:au:=[100,101,102,105,110,101]
def Mc:au:=[108,101,116]
def N8(c:Vc):Prop:=c.k≠3\/l7 c.s.data.toList=false
inductive XD(w:aa):List Vc->List au->List Vc->Prop
 |nil:XD w [] [] []
 |cons (g h:Nat) (bs:List Vc) (t:au) (ns:List au) (a:Vc) (vs:List Vc):gY w g (dy t) (eg h)->gY w h a (cQ 4 0)->XD w bs ns vs->XD w (eg g::bs) (t::ns) (a::vs)
mutual
inductive XX (w:aa) (mo:Nat->Option Nat):Nat->Vc->X->Prop
 |lit (n:Nat) (v:V) (c:Vc):RX w mo v c->(c.k=1\/c.k=2)->XX w mo n c (.const v)
 |sym (n:Nat) (t:au):t.length<=8000->XX w mo n (dy t) (.var t)
 |form (n g:Nat) (cs:List Vc) (e:X):eC w (eg g) cs->cs.length<=1000->XI w mo n cs e->XX w mo (n+1) (eg g) e
inductive XI (w:aa) (mo:Nat->Option Nat):Nat->List Vc->X->Prop
 |quote (n:Nat) (q:Vc) (v:V):RX w mo v q->XI w mo n [dy kL,q] (.const v)
 |if3 (n:Nat) (a b:Vc) (x y:X):XX w mo n a x->XX w mo n b y->XI w mo n [dy Qg,a,b] (.ite x y (.const .nothing))
 |if4 (n:Nat) (a b c:Vc) (x y z:X):XX w mo n a x->XX w mo n b y->XX w mo n c z->XI w mo n [dy Qg,a,b,c] (.ite x y z)
 |set (n:Nat) (t:au) (a:Vc) (x:X):XX w mo n a x->XI w mo n [dy Md,dy t,a] (.set t x)
 |lambda (n:Nat) (f:Vc) (ns:List au) (bs:List Vc) (x:X):eC w f (ns.map dy)->ns.length<=1000->XB w mo n bs x->XI w mo n (dy cz::f::bs) (.lambda ns x)
 |begin (n:Nat) (bs:List Vc) (x:X):XB w mo n bs x->XI w mo n (dy kK::bs) x
 |defv (n:Nat) (t:au) (a:Vc) (x:X):XX w mo n a x->XI w mo n [dy mX,dy t,a] (.define t x)
 |defp (n g:Nat) (t:au) (f:Vc) (ns:List au) (bs:List Vc) (x:X):gY w g (dy t) f->eC w f (ns.map dy)->ns.length<=1000->XB w mo n bs x->XI w mo n (dy mX::eg g::bs) (.define t (.lambda ns x))
 |lets (n:Nat) (q:Vc) (bs:List Vc) (ns:List au) (vs:List Vc) (ds:List Vc) (x:X) (xs:List X):eC w q bs->XD w bs ns vs->bs.length<=1000->XB w mo n ds x->XL w mo n vs xs->XI w mo n (dy Mc::q::ds) (.apply (.lambda ns x::xs))
 |app (n:Nat) (c:Vc) (cs:List Vc) (x:X) (xs:List X):N8 c->XX w mo n c x->XL w mo n cs xs->XI w mo n (c::cs) (.apply (x::xs))
inductive XB (w:aa) (mo:Nat->Option Nat):Nat->List Vc->X->Prop
 |one (n:Nat) (c:Vc) (x:X):XX w mo n c x->XB w mo n [c] x
 |seq (n:Nat) (c d:Vc) (cs:List Vc) (x y:X) (xs:List X):XX w mo n c x->XX w mo n d y->XL w mo n cs xs->XB w mo n (c::d::cs) (.seq (x::y::xs))
inductive XL (w:aa) (mo:Nat->Option Nat):Nat->List Vc->List X->Prop
 |nil (n:Nat):XL w mo n [] []
 |cons (n:Nat) (c:Vc) (cs:List Vc) (x:X) (xs:List X):XX w mo n c x->XL w mo n cs xs->XL w mo n (c::cs) (x::xs)
end
theorem XD.ak{w:aa}(k:KR w w'){bs:List Vc}{vs:List Vc}(h:XD w bs ns vs):XD w' bs ns vs:=by
 induction h with
 |nil=>exact .nil
 |cons g h bs t ns a vs h1 h2 _ b=>exact .cons g h bs t ns a vs (k.pair _ _ h1) (k.pair _ _ h2) b
mutual
theorem XX.ak {w w':aa} {mo f:Nat->Option Nat} (k:KR w w') (hm:Le mo f) {n:Nat} {c:Vc} {e:X}:XX w mo n c e->XX w' f n c e
 |.lit _ v _ h1 h2=>.lit _ v _ (T5 k hm v _ h1) h2
 |.sym _ t h=>.sym _ t h
 |.form _ g cs _ h1 h2 h3=>.form _ g cs _ (T4 k cs _ h1) h2 (XI.ak k hm h3)
theorem XI.ak {w w':aa} {mo f:Nat->Option Nat} (k:KR w w') (hm:Le mo f) {n:Nat} {c:List Vc} {e:X}:XI w mo n c e->XI w' f n c e
 |.quote _ q v h=>.quote _ q v (T5 k hm v q h)
 |.if3 _ a b x y h1 h2=>.if3 _ a b x y (XX.ak k hm h1) (XX.ak k hm h2)
 |.if4 _ a b c x y z h1 h2 h3=>.if4 _ a b c x y z (XX.ak k hm h1) (XX.ak k hm h2) (XX.ak k hm h3)
 |.set _ t a x h=>.set _ t a x (XX.ak k hm h)
 |.lambda _ j ns bs x h1 h2 h3=>.lambda _ j ns bs x (T4 k _ _ h1) h2 (XB.ak k hm h3)
 |.begin _ bs x h=>.begin _ bs x (XB.ak k hm h)
 |.defv _ t a x h=>.defv _ t a x (XX.ak k hm h)
 |.defp _ g t j ns bs x h1 h2 h3 i=>.defp _ g t j ns bs x (k.pair _ _ h1) (T4 k _ _ h2) h3 (XB.ak k hm i)
 |.lets _ q bs ns vs ds x xs h1 h2 h3 i l=>.lets _ q bs ns vs ds x xs (T4 k _ _ h1) (h2.ak k) h3 (XB.ak k hm i) (XL.ak k hm l)
 |.app _ c cs x xs h1 h2 h3=>.app _ c cs x xs h1 (XX.ak k hm h2) (XL.ak k hm h3)
theorem XB.ak {w w':aa} {mo f:Nat->Option Nat} (k:KR w w') (hm:Le mo f) {n:Nat} {c:List Vc} {e:X}:XB w mo n c e->XB w' f n c e
 |.one _ c x h=>.one _ c x (XX.ak k hm h)
 |.seq _ c d cs x y xs h1 h2 h3=>.seq _ c d cs x y xs (XX.ak k hm h1) (XX.ak k hm h2) (XL.ak k hm h3)
theorem XL.ak {w w':aa} {mo f:Nat->Option Nat} (k:KR w w') (hm:Le mo f) {n:Nat} {c:List Vc} {e:List X}:XL w mo n c e->XL w' f n c e
 |.nil _=>.nil _
 |.cons _ c cs x xs h1 h2=>.cons _ c cs x xs (XX.ak k hm h1) (XL.ak k hm h2)
end
def bw(cs:List Vc):a7:=cs.flatMap λc=>c.c.toList
def LR(w:aa)(Y:a9)(u:Sl)(cs:List Vc):Prop:=
 u.n=cs.length/\u.n<=u.c/\u.c<=maxLen/\(0<cs.length->∃g b d,u.a=some ⟨g,b,none⟩/\w.heap[g]? =some (Obj.cells d 96 (0,0))/\¬Y g/\∀(i:Nat) (v:Vc),cs[i]? =some v->∀(j:Nat) (x:al),v.c[j]? =some x->d[b+i *5+j]? =some x)
theorem LR.ak{w:aa}{u:Sl}{cs:List Vc}(k:∀b,b<w.heap.size->¬Y b->¬Y' b/\w'.heap[b]? =w.heap[b]?)(h:LR w Y u cs):LR w' Y' u cs:=by
 obtain⟨h1,h2,h3,j⟩:=h;refine⟨h1,h2,h3,λhp=> ?_⟩;obtain⟨g,c,d,e,e2,e3,i⟩:=j hp;obtain⟨l,p⟩:=k g (ai e2) e3;exact⟨g,c,d,e,by rw[p];exact e2,l,i⟩
def NR(w:aa)(Q:a9)(u:Sl)(ns:List au):Prop:=u.n=ns.length/\u.n<=u.c/\u.c<=maxLen/\(0<ns.length->∃g b,u.a=eb g/\w.heap[g]? =some (Obj.cells b 9 (0,0))/\Q g/\∀(i:Nat) (s:au),ns[i]? =some s->b[i]? =some (bO s))
theorem NR.ak{w:aa}{u:Sl}(j:∀b,b<w.heap.size->Q b->Q' b/\w'.heap[b]? =w.heap[b]?)(h:NR w Q u ns):NR w' Q' u ns:=by
 obtain⟨h1,h2,h3,i⟩:=h;refine⟨h1,h2,h3,λhp=> ?_⟩;obtain⟨g,c,d,e2,e3,e⟩:=i hp;obtain⟨k,l⟩:=j g (ai e2) e3;exact⟨g,c,d,by rw[l];exact e2,k,e⟩
def FP(mf:Nat->Option Nat)(f:Nat)(a:a8):Prop:=∃g,mf f=some g/\a=eb g
theorem FP.ak{f:Nat}{a:a8}(hm:Le mf mf')(h:FP mf f a):FP mf' f a:=by
 obtain⟨g,h1,h2⟩:=h;exact⟨g,hm _ _ h1,h2⟩
def KX(w:aa)(Y:a9)(mo mf:Nat->Option Nat)(k:Kc):XK->Prop
 |.test f b c=>k.kind=1/\FP mf f k.fr/\∃n,n<=40/\((∃a x1 x2,LR w Y k.l [a,x1,x2]/\XX w mo n x2 b/\c=.const .nothing)\/(∃a x1 x2 x3,LR w Y k.l [a,x1,x2,x3]/\XX w mo n x2 b/\XX w mo n x3 c))
 |.bind f s=>k.kind=2/\FP mf f k.fr/\k.name=⟨s.toArray⟩
 |.change f s=>k.kind=3/\FP mf f k.fr/\k.name=⟨s.toArray⟩
 |.rest f es=>k.kind=4/\FP mf f k.fr/\∃n c cs,n<=40/\LR w Y k.l (c::cs)/\cs≠[]/\cs.length<=1000/\XL w mo n cs es
 |.args f es got=>k.kind=5/\FP mf f k.fr/\∃n cs vs,n<=40/\LR w Y k.l cs/\cs.length<=1001/\LR w Y k.vals vs/\fU w mo got.reverse vs/\vs.length<cs.length/\XL w mo n (cs.drop (vs.length+1)) es/\(vs=[]->k.vals=⟨none,0,0⟩)
theorem KX.ak{w:aa}{k:Kc}(d:KR w w')(hm:Le mo mo')(hf:Le mf mf')(e:∀b,b<w.heap.size->¬Y b->¬Y' b/\w'.heap[b]? =w.heap[b]?):∀(x:XK),KX w Y mo mf k x->KX w' Y' mo' mf' k x
 |.test f b c,⟨h1,h2,n,y,h3⟩=>⟨h1,h2.ak hf,n,y,by
  rcases h3 with⟨q,x1,x2,g,e2,e3⟩|⟨q,x1,x2,x3,g,e2,e3⟩
  .exact .inl ⟨q,x1,x2,g.ak e,e2.ak d hm,e3⟩
  .exact .inr ⟨q,x1,x2,x3,g.ak e,e2.ak d hm,e3.ak d hm⟩⟩
 |.bind f s,⟨h1,h2,h3⟩=>⟨h1,h2.ak hf,h3⟩
 |.change f s,⟨h1,h2,h3⟩=>⟨h1,h2.ak hf,h3⟩
 |.rest f es,⟨h1,h2,n,c,cs,h3,i,j,l,p⟩=>⟨h1,h2.ak hf,n,c,cs,h3,i.ak e,j,l,p.ak d hm⟩
 |.args f es got,⟨h1,h2,n,cs,vs,h3,i,j,l,p,u,v,h⟩=>⟨h1,h2.ak hf,n,cs,vs,h3,i.ak e,j,l.ak e,fU.ak d hm _ _ p,u,v.ak d hm,h⟩
def iU(w:aa)(Y:a9)(mo mf:Nat->Option Nat):a8->List XK->Prop
 |a,[]=>a=none
 |a,x::r=>∃g k,a=some ⟨g,0,none⟩/\di w g k/\k.deep=((x::r).length:Int)/\KX w Y mo mf k x/\iU w Y mo mf k.next r
theorem iU.ak{w:aa}(c:KR w w')(hm:Le mo mo')(hf:Le mf mf')(d:∀b,b<w.heap.size->¬Y b->¬Y' b/\w'.heap[b]? =w.heap[b]?):∀(l:List XK) (a:a8),iU w Y mo mf a l->iU w' Y' mo' mf' a l
 |[],_,h=>h
 |x::r,_,⟨g,k,h1,h2,h3,e,i⟩=>⟨g,k,h1,c.chain _ _ h2,h3,KX.ak c hm hf d x e,iU.ak c hm hf d r _ i⟩
theorem iU.deep{w:aa}:∀{l:List XK} {a:a8},iU w Y mo mf a l->cL w a l.length
 |[],_,h=>.inl ⟨h,rfl⟩
 |x::r,_,⟨g,k,h1,h2,h3,_⟩=>.inr ⟨g,k,h1,h2,h3⟩
end Go.Proofs.YtlobegpjenabaaaGreatDoor
