import Derived.Test.YtlobegpjenabaaaGreatDoorT19
namespace Go.Proofs.YtlobegpjenabaaaGreatDoor
open Go.RowKit Tryz
set_option linter.unusedVariables false
set_option linter.defProp false
set_option maxRecDepth 100000
set_option maxHeartbeats 4000000
def F2:=@Option.bind_some
def Sw:=@List.mem_of_getElem?
def SO:=@List.mem_append
def SW:=@List.mem_or_eq_of_mem_set
variable {R:D->V->Prop} {N i j made p nf nf' r:Nat} {z:BS} {vs a:List V} {O:List (Option XP)} {f:Fr} {g:XF} {α:Type} {s s1 s2 s':MS} {k:XK} {ns:List Nat} {xs o:List au} {x:XS} {C:Cd} {op n e:Int} {t:au} {J:Option Nat} {fs:List X}
def NP:V->Prop
 |.proc _=>False
 |.pair _ a b=>NP a/\NP b
 |_=>True
theorem Bw(hR:∀d v,R d v->NP v):∀(l:List D) (v:V),PA R l v->NP v
 |[],v,h=>by have h:v=.empty:=h;subst h;exact trivial
 |d::r,v,⟨id,a,b,h1,h2,h3,c⟩=>by subst h1;exact⟨hR d a h3,Bw hR r b c⟩
theorem Ih:∀(N:Nat) (d:D) (v:V),DV N d v->NP v
 |0,d,v,h=>h.elim
 |N+1,d,v,h=>by
  unfold DV at h;split at h
  .rename_i b;cases b
  .rename_i b;cases b;exact Bw (Ih N) _ _ h
  .rename_i b;cases b;exact Bw (Ih N) _ _ h.1
  .subst h;exact trivial
  .subst h;exact trivial
  .subst h;exact trivial
  .exact h.elim
mutual
def lB (z:BS) (vs:List V):X->Nat->Option Nat->Prop
 |.const v,p,J=>(∃n:Nat,z.is[p]? =some (1,(n:Int))/\vs[n]? =some v/\NP v)/\A5 z (p+1) J
 |.var s,p,J=>(∃n:Nat,z.is[p]? =some (2,(n:Int))/\z.ns[n]? =some s)/\A5 z (p+1) J
 |.lambda xs a,p,J=>(∃(l:Nat) (nm:au) (ns:List Nat) (e:Nat),z.is[p]? =some (3,(l:Int))/\z.ls[l]? =some (nm,ns,e)/\jC z ns xs/\xs.Nodup/\lB z vs a e none)/\A5 z (p+1) J
 |.define s a,p,J=>∃r n:Nat,p<r/\z.is[p]? =some (4,(r:Int))/\lB z vs a (p+1) (some r)/\z.is[r]? =some (9,(n:Int))/\z.ns[n]? =some s/\A5 z (r+1) J
 |.set s a,p,J=>∃r n:Nat,p<r/\z.is[p]? =some (4,(r:Int))/\lB z vs a (p+1) (some r)/\z.is[r]? =some (10,(n:Int))/\z.ns[n]? =some s/\A5 z (r+1) J
 |.ite a b c,p,_=>∃r t:Nat,p<r/\z.is[p]? =some (4,(r:Int))/\lB z vs a (p+1) (some r)/\z.is[r]? =some (8,(t:Int))/\lB z vs b (r+1) none/\lB z vs c t none
 |.seq es,p,J=>2<=es.length/\tf z vs es 4 p J
 |.apply es,p,_=>1<=es.length/\KM z vs es 4 p
def tf (z:BS) (vs:List V):List X->Int->Nat->Option Nat->Prop
 |[],_,_,_=>False
 |[e],_,p,J=>z.is[p]? =some (7,0)/\lB z vs e (p+1) J
 |e::r,op,p,J=>∃t:Nat,p<t/\z.is[p]? =some (op,(t:Int))/\lB z vs e (p+1) (some t)/\tf z vs r 6 t J
def KM (z:BS) (vs:List V):List X->Int->Nat->Prop
 |[],_,p=>z.is[p]? =some (11,0)/\z.is[p+1]? =some (12,0)
 |e::r,op,p=>∃t:Nat,p<t/\z.is[p]? =some (op,(t:Int))/\lB z vs e (p+1) (some t)/\KM z vs r 5 t
end
def nN(z:BS)(vs:List V):List X->Nat->Prop
 |[],p=>z.is[p]? =some (14,0)
 |e::r,p=>∃t:Nat,p<t/\z.is[p]? =some (0,(t:Int))/\lB z vs e (p+1) none/\nN z vs r t
mutual
def gP (R:D->V->Prop):E->X->Prop
 |.const d,.const v=>R d v
 |.nothing,.const v=>v=.nothing
 |.var s,.var t=>s=t
 |.ite a b c,.ite x y u=>gP R a x/\gP R b y/\gP R c u
 |.define s a,.define t x=>s=t/\gP R a x
 |.set s a,.set t x=>s=t/\gP R a x
 |.lambda _ xs a,.lambda f x=>xs=f/\gP R a x
 |.seq es,.seq xs=>eF R es xs
 |.apply es,.apply xs=>eF R es xs
 |_,_=>False
def eF (R:D->V->Prop):List E->List X->Prop
 |[],[]=>True
 |e::r,x::xs=>gP R e x/\eF R r xs
 |_,_=>False
end
theorem eF.length:∀{es:List E} {xs:List X},eF R es xs->es.length=xs.length
 |[],[],_=>rfl
 |[],_::_,h=>by simp[eF] at h
 |_::_,[],h=>by simp[eF] at h
 |e::r,x::xs,h=>by
  have h:gP R e x/\eF R r xs:=by simpa only[eF] using h
  simp[eF.length h.2]
theorem qo:∀(cs:List (Option D)) (vs:List V) (n:Nat) (c:Option D),Di N cs vs->cs[n]? =some c->∃v,vs[n]? =some v/\(match c with|none=>v=.nothing|some d=>DV N d v)
 |[],vs,n,c,_,h=>by simp at h
 |none::_,[],_,_,h,_=>h.elim
 |some _::_,[],_,_,h,_=>h.elim
 |none::r,v::vs,0,c,h,e=>by simp at e;subst e;exact⟨v,rfl,h.1⟩
 |some d::r,v::vs,0,c,h,e=>by simp at e;subst e;exact⟨v,rfl,h.1⟩
 |none::r,v::vs,n+1,c,h,e=>qo r vs n c h.2 (by simpa using e)
 |some d::r,v::vs,n+1,c,h,e=>qo r vs n c h.2 (by simpa using e)
def DW(N:Nat)(vs:List V)(d:D)(v:V):Prop:=DV N d v/\v∈vs
mutual
theorem tj {z:BS} {vs:List V} {N:Nat} (g:Di N z.cs vs) (hb:Gu z):∀(e:E) (p:Nat) (J:Option Nat),o6 e->At z e p J->∃x,gP (DW N vs) e x/\lB z vs x p J
 |.const d,p,J,_,⟨⟨n,h1,h2⟩,h3⟩=>by
  obtain⟨v,k1,k2⟩:=qo _ _ n _ g h2;exact⟨.const v,by simp only[gP];exact⟨k2,Sw k1⟩,by simp only[lB];exact⟨⟨n,h1,k1,Ih N d v k2⟩,h3⟩⟩
 |.nothing,p,J,_,⟨⟨n,h1,h2⟩,h3⟩=>by
  obtain⟨v,k1,k2⟩:=qo _ _ n _ g h2;have k2:v=.nothing:=k2;subst k2;exact⟨.const .nothing,by simp only[gP],by simp only[lB];exact⟨⟨n,h1,k1,trivial⟩,h3⟩⟩
 |.var s,p,J,_,⟨⟨n,h1,h2⟩,h3⟩=>⟨.var s,by simp only[gP],by simp only[lB];exact⟨⟨n,h1,h2⟩,h3⟩⟩
 |.lambda nm xs a,p,J,f,⟨⟨l,ns,e,h1,h2,h3,j⟩,k⟩=>by
  obtain⟨x,k1,k2⟩:=tj g hb a e none f.2 (hb l nm ns e a h2 j);exact⟨.lambda xs x,by simp only[gP];exact⟨trivial,k1⟩,by simp only[lB];exact⟨⟨l,nm,ns,e,h1,h2,h3,f.1,k2⟩,k⟩⟩
 |.define s a,p,J,f,⟨r,n,i,h1,h2,h3,j,k⟩=>by
  obtain⟨x,k1,k2⟩:=tj g hb a (p+1) (some r) f h2;exact⟨.define s x,by simp only[gP];exact⟨trivial,k1⟩,by simp only[lB];exact⟨r,n,i,h1,k2,h3,j,k⟩⟩
 |.set s a,p,J,f,⟨r,n,i,h1,h2,h3,j,k⟩=>by
  obtain⟨x,k1,k2⟩:=tj g hb a (p+1) (some r) f h2;exact⟨.set s x,by simp only[gP];exact⟨trivial,k1⟩,by simp only[lB];exact⟨r,n,i,h1,k2,h3,j,k⟩⟩
 |.ite a b c,p,J,f,⟨r,t,i,h1,h2,h3,j,k⟩=>by
  obtain⟨x,k1,k2⟩:=tj g hb a (p+1) (some r) f.1 h2;obtain⟨y,k3,m⟩:=tj g hb b (r+1) none f.2.1 j;obtain⟨u,o,k6⟩:=tj g hb c t none f.2.2 k;exact⟨.ite x y u,by simp only[gP];exact⟨k1,k3,o⟩,by simp only[lB];exact⟨r,t,i,h1,k2,h3,m,k6⟩⟩
 |.seq es,p,J,f,h=>by
  obtain⟨xs,k1,k2⟩:=NZ g hb es 4 p J f.2 h;exact⟨.seq xs,by simp only[gP];exact k1,by simp only[lB];exact⟨by rw[<-k1.length];exact f.1,k2⟩⟩
 |.apply es,p,J,f,h=>by
  obtain⟨xs,k1,k2⟩:=NN g hb es 4 p f.2 h;exact⟨.apply xs,by simp only[gP];exact k1,by simp only[lB];exact⟨by rw[<-k1.length];exact f.1,k2⟩⟩
theorem NZ {z:BS} {vs:List V} {N:Nat} (g:Di N z.cs vs) (hb:Gu z):∀(es:List E) (op:Int) (p:Nat) (J:Option Nat),fu es->K3 z es op p J->∃xs,eF (DW N vs) es xs/\tf z vs xs op p J
 |[],op,p,J,_,h=>h.elim
 |[e],op,p,J,f,⟨h1,h2⟩=>by
  obtain⟨x,k1,k2⟩:=tj g hb e (p+1) J f.1 h2;exact⟨[x],by simp only[eF];exact⟨k1,trivial⟩,by simp only[tf];exact⟨h1,k2⟩⟩
 |e::e2::r,op,p,J,f,⟨t,i,h1,h2,h3⟩=>by
  obtain⟨x,k1,k2⟩:=tj g hb e (p+1) (some t) f.1 h2;obtain⟨xs,k3,m⟩:=NZ g hb (e2::r) 6 t J f.2 h3;cases xs with
  |nil=>simp[eF] at k3
  |cons y q=>exact⟨x::y::q,by rw[eF];exact⟨k1,k3⟩,by rw[tf];exact⟨t,i,h1,k2,m⟩;simp⟩
theorem NN {z:BS} {vs:List V} {N:Nat} (g:Di N z.cs vs) (hb:Gu z):∀(es:List E) (op:Int) (p:Nat),fu es->KN z es op p->∃xs,eF (DW N vs) es xs/\KM z vs xs op p
 |[],op,p,_,h=>⟨[],by simp only[eF],by simp only[KM];exact h⟩
 |e::r,op,p,f,⟨t,i,h1,h2,h3⟩=>by
  obtain⟨x,k1,k2⟩:=tj g hb e (p+1) (some t) f.1 h2;obtain⟨xs,k3,m⟩:=NN g hb r 5 t f.2 h3;exact⟨x::xs,by simp only[eF];exact⟨k1,k3⟩,by simp only[KM];exact⟨t,i,h1,k2,m⟩⟩
end
theorem DG(b:Di N z.cs vs)(hb:Gu z):∀(es:List E) (p:Nat),fu es->vC z es p->∃xs,eF (DW N vs) es xs/\nN z vs xs p
 |[],p,_,h=>⟨[],by simp only[eF],h⟩
 |e::r,p,c,⟨t,d,h1,h2,h3⟩=>by
  obtain⟨x,k1,k2⟩:=tj b hb e (p+1) none c.1 h2;obtain⟨xs,k3,l⟩:=DG b hb r t c.2 h3;exact⟨x::xs,by simp only[eF];exact⟨k1,k3⟩,t,d,h1,k2,l⟩
theorem jq(a:Int)(l:List Int)(n:Int):dU (a::l) n=if a=n then some 0 else(dU l n).map (· +1):=by
 unfold dU;by_cases h:a=n
 .subst h;simp
 .have b:¬n=a:=λe=>h e.symm;simp only[R5,h,SI];rw[Sb];have:(n==a)=false:=by simpa using b
  have h2:(a==n)=false:=by simpa using h
  simp only[this,Ti,h2,TA];split<;>simp
theorem jr(a:au)(l:List au)(n:au):dE (a::l) n=if a=n then some 0 else(dE l n).map (· +1):=by
 unfold dE;by_cases h:a=n
 .subst h;simp
 .have b:¬n=a:=λe=>h e.symm;simp only[R5,h,SI];rw[Sb];have:(n==a)=false:=by simpa using b
  have h2:(a==n)=false:=by simpa using h
  simp only[this,Ti,h2,TA];split<;>simp
theorem qq:∀(l:List Int) (n:Int) (j:Nat),dU l n=some j->l[j]? =some n
 |[],n,j,h=>by cases h
 |a::l,n,j,h=>by
  rw[jq] at h;split at h
  .rename_i e;cases h;simp[e]
  .cases hh:dU l n with
   |none=>rw[hh] at h;cases h
   |some k=>rw[hh] at h;cases h;simpa using qq l n k hh
theorem ic:∀(l:List au) (n:au) (j:Nat),dE l n=some j->l[j]? =some n
 |[],n,j,h=>by cases h
 |a::l,n,j,h=>by
  rw[jr] at h;split at h
  .rename_i e;cases h;simp[e]
  .cases hh:dE l n with
   |none=>rw[hh] at h;cases h
   |some k=>rw[hh] at h;cases h;simpa using ic l n k hh
theorem uv:∀(l:List Int) (m n:Int),dU (l++[m]) n=match dU l n with|some j=>some j|none=>if m=n then some l.length else none
 |[],m,n=>by
  show dU [m] n=_;rw[jq];split<;>rfl
 |a::l,m,n=>by
  rw[s6,jq,jq,uv l m n];by_cases h:a=n
  .simp[h]
  .simp only[h,SI];cases dU l n with
   |some j=>rfl
   |none=>simp only[Option.map_none];split<;>simp
theorem oi:∀(l:List au) (m n:au),dE (l++[m]) n=match dE l n with|some j=>some j|none=>if m=n then some l.length else none
 |[],m,n=>by
  show dE [m] n=_;rw[jr];split<;>rfl
 |a::l,m,n=>by
  rw[s6,jr,jr,oi l m n];by_cases h:a=n
  .simp[h]
  .simp only[h,SI];cases dE l n with
   |some j=>rfl
   |none=>simp only[Option.map_none];split<;>simp
def uJ(f:Fr)(i:Nat):Option V:=(dU f.ns i).bind λk=>f.vs[k]?
def px(f:XF)(s:au):Option V:=(dE f.ns s).bind λk=>f.vs[k]?
def nQ(O:List (Option XP)):V->Prop
 |.proc id=>id%2=0/\∃p,O[id/2]? =some (some p)
 |.pair _ a b=>nQ O a/\nQ O b
 |_=>True
theorem nQ.snoc(x:Option XP):∀{v:V},nQ O v->nQ (O++[x]) v
 |.int _,h=>h
 |.bool _,h=>h
 |.sym _,h=>h
 |.empty,h=>h
 |.nothing,h=>h
 |.pair _ _ _,h=>⟨nQ.snoc x h.1,nQ.snoc x h.2⟩
 |.proc id,⟨h1,p,h2⟩=>⟨h1,p,iw h2⟩
theorem NP.ok:∀{v:V},NP v->nQ O v
 |.int _,_=>trivial
 |.bool _,_=>trivial
 |.sym _,_=>trivial
 |.empty,_=>trivial
 |.nothing,_=>trivial
 |.pair _ _ _,h=>⟨NP.ok h.1,NP.ok h.2⟩
 |.proc id,h=>h.elim
structure qB(z:BS)(O:List (Option XP))(f:Fr)(g:XF):Prop where
 out:f.out=g.out
 l1:f.ns.length=f.vs.length
 l2:g.ns.length=g.vs.length
 l3:g.ns.length<=f.ns.length+14
 rng:∀n∈f.ns,0<=n/\n<(z.ns.length:Int)
 nd:f.ns.Nodup
 lk:∀(i:Nat) (s:au),z.ns[i]? =some s->uJ f i=px g s
 ok:∀v∈g.vs,nQ O v
theorem qB.snoc(x:Option XP)(h:qB z O f g):qB z (O++[x]) f g:=⟨h.out,h.l1,h.l2,h.l3,h.rng,h.nd,h.lk,λv b=>(h.ok v b).snoc x⟩
theorem I5[DecidableEq α]{l:List α}(h:l.Nodup){a:α}(hi:l[i]? =some a)(c:l[j]? =some a):i=j:=by
 have h1:i<l.length:=by
  rcases sb i l.length with b|b
  .exact b
  .rw[CC b] at hi;cases hi
 exact(List.getElem?_inj h1 h).1 (hi.trans c.symm)
theorem cy{l:List α}{a:α}(h:l[i]? =some a):i<l.length:=by
 rcases sb i l.length with b|b
 .exact b
 .rw[CC b] at h;cases h
theorem I6:∀(k:Nat) (l:List Int),l.Nodup->(∀n∈l,0<=n/\n<(k:Int))->l.length<=k
 |0,l,_,h=>by
  cases l with
  |nil=>exact ew _
  |cons a r=>have:=h a (by simp);omega
 |k+1,l,c,h=>by
  have h1:=I6 k (l.filter (λn=>decide (n≠(k:Int)))) (c.filter _) (λn hm=>by
   rw[List.mem_filter] at hm;have:=h n hm.1;have h2:n≠(k:Int):=by simpa using hm.2
   omega)
  have h2:l.length<=(l.filter (λn=>decide (n≠(k:Int)))).length+1:=by
   clear h h1;induction l with
   |nil=>simp
   |cons a r q=>
    rw[List.nodup_cons] at c;by_cases d:a=(k:Int)
    .have m:r.filter (λn=>decide (n≠(k:Int)))=r:=by
      rw[List.filter_eq_self];intro b hb;have:b≠a:=λe=>c.1 (e▸hb);rw[d] at this;simpa using this
     rw[List.filter_cons,m];have:decide (a≠(k:Int))=false:=by simp[d]
     rw[this];simp
    .rw[List.filter_cons];have:decide (a≠(k:Int))=true:=by simp[d]
     rw[this];have:=q c.2;rw[fN rfl,j1,j1];omega
  omega
theorem qB.len(h:qB z O f g):f.ns.length<=z.ns.length:=I6 _ _ h.nd h.rng
theorem qB.idx(h:qB z O f g){s:au}(hi:z.ns[i]? =some s):(dU f.ns i=none/\dE g.ns s=none)\/∃j k v,dU f.ns i=some j/\dE g.ns s=some k/\f.vs[j]? =some v/\g.vs[k]? =some v:=by
 have b:=h.lk i s hi;unfold uJ px at b;cases h1:dU f.ns i with
 |none=>
  rw[h1] at b;cases h2:dE g.ns s with
  |none=>exact .inl ⟨rfl,rfl⟩
  |some k=>
   have:=cy (ic _ _ _ h2);rw[h2,Option.bind_none,F2,fA (by rw[<-h.l2];exact this)] at b;cases b
 |some j=>
  have c:=cy (qq _ _ _ h1);rw[h1,F2,fA (by rw[<-h.l1];exact c)] at b;cases h2:dE g.ns s with
  |none=>rw[h2] at b;cases b
  |some k=>
   rw[h2,F2] at b;exact .inr ⟨j,k,_,rfl,rfl,fA _,b.symm⟩
theorem qB.put(h:qB z O f g)(K:z.ns.Nodup){k:Nat}{s:au}{v:V}(hi:z.ns[i]? =some s)(D:dU f.ns i=some j)(E:dE g.ns s=some k)(I:nQ O v):qB z O (f.put j v) (g.put k v):=by
 have A:=qq _ _ _ D;have B:=ic _ _ _ E;refine⟨h.out,by simp only[Fr.put,s5];exact h.l1,by simp only[XF.put,s5];exact h.l2,h.l3,h.rng,h.nd,λc s2 b=> ?_,λu y=> ?_⟩
 .unfold uJ px Fr.put XF.put;simp only;by_cases w:c=i
  .subst w;rw[hi] at b;cases b;rw[D,E,F2,F2,QK (by rw[<-h.l1];exact cy A),QK (by rw[<-h.l2];exact cy B)]
  .have m:s2≠s:=λe=>w (I5 K b (e▸hi));have F:=h.lk c s2 b;unfold uJ px at F;have G:((dU f.ns c).bind λk=>(f.vs.set j v)[k]?)=(dU f.ns c).bind λk=>f.vs[k]?:=by
    cases h1:dU f.ns c with
    |none=>rfl
    |some L=>
     have d:j≠L:=λe=>by
      have:=qq _ _ _ h1;rw[<-e,A] at this;cases this;exact w rfl
     rw[F2,F2,PV d]
   have H:((dE g.ns s2).bind λq=>(g.vs.set k v)[q]?)=(dE g.ns s2).bind λq=>g.vs[q]?:=by
    cases h1:dE g.ns s2 with
    |none=>rfl
    |some k2=>
     have l:k≠k2:=λe=>by
      have:=ic _ _ _ h1;rw[<-e,B] at this;cases this;exact m rfl
     rw[F2,F2,PV l]
   rw[G,H];exact F
 .have y:u∈g.vs.set k v:=y;rcases SW y with h1|h1
  .exact h.ok u h1
  .subst h1;exact I
theorem qB.define(h:qB z O f g)(B:z.ns.Nodup){s:au}{v:V}(hi:z.ns[i]? =some s)(A:nQ O v):qB z O (f.define i v) (g.define s v):=by
 unfold Fr.define XF.define;rcases h.idx hi with⟨h1,h2⟩|⟨j,k,u,h1,h2,_,_⟩
 .rw[h1,h2];refine⟨h.out,by simp[h.l1],by simp[h.l2],by have:=h.l3;simp;omega,λn d=> ?_,?_,λD s2 c=> ?_,λu l=> ?_⟩
  .simp only[SO,Se] at d;rcases d with d|d
   .exact h.rng n d
   .subst d;have:=cy hi;omega
  .simp only;rw[To];refine⟨h.nd,by simp,λa E b hb=> ?_⟩;simp at hb;subst hb;rintro rfl;unfold dU at h1;rw[fN (by rw[RJ];simpa using E)] at h1;cases h1
  .have F:=h.lk D s2 c;unfold uJ px at F ⊢;simp only;rw[uv,oi];rcases h.idx c with⟨q,w⟩|⟨j,k,u,q,w,G,H⟩
   .rw[q,w];simp only;by_cases y:D=i
    .subst y;rw[hi] at c;cases c;rw[fN rfl,fN rfl,F2,F2,h.l1,h.l2];simp
    .have m:s≠s2:=λe=>y (I5 B c (e▸hi));rw[fb (by omega),fb m];rfl
   .rw[q,w];simp only[F2];rw[iw G,iw H]
  .simp only[SO,Se] at l;rcases l with l|l
   .exact h.ok u l
   .subst l;exact A
 .rw[h1,h2];exact h.put B hi h1 h2 A
theorem jC.length:∀{ns:List Nat} {xs:List au},jC z ns xs->ns.length=xs.length
 |[],[],_=>rfl
 |[],_::_,h=>h.elim
 |_::_,[],h=>h.elim
 |n::ns,s::r,h=>by simp[jC.length h.2]
theorem jC.mem:∀{ns:List Nat} {xs:List au},jC z ns xs->∀n∈ns,∃s∈xs,z.ns[n]? =some s
 |[],[],_,n,b=>by simp at b
 |[],_::_,h,_,_=>h.elim
 |_::_,[],h,_,_=>h.elim
 |m::ns,s::r,h,n,b=>by
  rcases RD.1 b with e|e
  .subst e;exact⟨s,by simp,h.1⟩
  .obtain⟨t,h1,h2⟩:=jC.mem h.2 n e;exact⟨t,by simp[h1],h2⟩
theorem jC.nodup:∀{ns:List Nat} {xs:List au},jC z ns xs->xs.Nodup->ns.Nodup
 |[],[],_,_=>by simp
 |[],_::_,h,_=>h.elim
 |_::_,[],h,_=>h.elim
 |m::ns,s::r,h,b=>by
  rw[List.nodup_cons] at b ⊢;refine⟨λhm=> ?_,jC.nodup h.2 b.2⟩;obtain⟨t,h1,h2⟩:=jC.mem h.2 m hm;rw[h.1] at h2;cases h2;exact b.1 h1
theorem jC.idx(c:z.ns.Nodup){s:au}(hi:z.ns[i]? =some s):∀{ns:List Nat} {xs:List au},jC z ns xs->dU (ns.map Int.ofNat) i=dE xs s
 |[],[],_=>rfl
 |[],_::_,h=>h.elim
 |_::_,[],h=>h.elim
 |m::ns,t::r,h=>by
  rw[v6,jq,jr,jC.idx c hi h.2];by_cases hm:m=i
  .subst hm;have:=h.1;rw[hi] at this;cases this;rw[fN (show Int.ofNat m=(m:Int) from rfl),fN rfl]
  .have b:t≠s:=λe=>hm (I5 c h.1 (e▸hi));rw[fb (by intro e;exact hm (Int.ofNat.inj e)),fb b]
theorem qB.new(w:z.ns.Nodup){q:Option Nat}(h:jC z ns xs)(l:xs.Nodup)(d:a.length=xs.length)(u:∀v∈a,nQ O v):qB z O ⟨ns.map Int.ofNat,a,q⟩ ⟨xs,a,q⟩:=by
 refine⟨rfl,by simp[h.length,d],d.symm,by have:=h.length;simp;omega,λn hm=> ?_,?_,λi s hi=> ?_,u⟩
 .simp only[TG] at hm;obtain⟨m,h1,rfl⟩:=hm;obtain⟨s,_,h2⟩:=h.mem m h1;have:=cy h2;exact⟨Int.natCast_nonneg m,by show(m:Int)<_;omega⟩
 .have:=h.nodup l;exact List.Pairwise.map Int.ofNat (λa b c e=>c (Int.ofNat.inj e)) this
 .unfold uJ px;simp only[h.idx w hi]
structure lW(z:BS)(O:List (Option XP))(l:List Fr)(g:List XF):Prop where
 len:l.length=g.length
 at':∀(i:Nat) f x,l[i]? =some f->g[i]? =some x->qB z O f x
theorem lW.get{l:List Fr}{g:List XF}(h:lW z O l g)(hi:i<g.length):∃f x,l[i]? =some f/\g[i]? =some x/\qB z O f x:=by
 have h1:l[i]? =some (l[i]'(by rw[h.len];exact hi)):=fA _;have h2:g[i]? =some g[i]:=fA _;exact⟨_,_,h1,h2,h.at' i _ _ h1 h2⟩
theorem lW.snoc{l:List Fr}{g:List XF}(x:Option XP)(h:lW z O l g):lW z (O++[x]) l g:=⟨h.len,λi f y h1 h2=>(h.at' i f y h1 h2).snoc x⟩
theorem lW.set{l:List Fr}{g:List XF}(h:lW z O l g)(i:Nat){x:XF}(hf:qB z O f x):lW z O (l.set i f) (g.set i x):=by
 refine⟨by simp[h.len],λj a b h1 h2=> ?_⟩;by_cases d:i=j
 .subst d;have c:=cy h1;rw[s5] at c;rw[QK c] at h1;rw[QK (by rw[<-h.len];exact c)] at h2;cases h1;cases h2;exact hf
 .rw[PV d] at h1 h2;exact h.at' j a b h1 h2
theorem lW.add{l:List Fr}{g:List XF}(h:lW z O l g){x:XF}(hf:qB z O f x):lW z O (l++[f]) (g++[x]):=by
 refine⟨by simp[h.len],λj a b h1 h2=> ?_⟩;rcases sb j l.length with c|c
 .rw[o5 c] at h1;rw[o5 (by rw[<-h.len];exact c)] at h2;exact h.at' j a b h1 h2
 .rw[s7 c] at h1;rw[s7 (by rw[<-h.len];exact c),<-h.len] at h2;have:j-l.length=0:=by
   have:=cy h1;simp at this;omega
  rw[this] at h1 h2;cases h1;cases h2;exact hf
theorem lW.find{l:List Fr}{g:List XF}(h:lW z O l g){s:au}(hi:z.ns[i]? =some s):∀(k f:Nat),(fZ l k f i=none/\eG g k f s=none)\/∃q j m fr x v,fZ l k f i=some (q,j)/\eG g k f s=some (q,m)/\l[q]? =some fr/\g[q]? =some x/\qB z O fr x/\dU fr.ns i=some j/\dE x.ns s=some m/\fr.vs[j]? =some v/\x.vs[m]? =some v
 |0,f=>.inl ⟨rfl,rfl⟩
 |k+1,f=>by
  unfold fZ eG;rcases sb f g.length with hf|hf
  .obtain⟨fr,x,h1,h2,h3⟩:=h.get hf;rw[h1,h2];simp only;rcases h3.idx hi with⟨b,c⟩|⟨j,m,v,b,c,d,w⟩
   .rw[b,c,h3.out];cases hx:x.out with
    |none=>exact .inl ⟨rfl,rfl⟩
    |some u=>exact lW.find h hi k u
   .rw[b,c];exact .inr ⟨f,j,m,fr,x,v,rfl,rfl,h1,h2,h3,b,c,d,w⟩
  .rw[CC hf,CC (by rw[h.len];exact hf)];exact .inl ⟨rfl,rfl⟩
def O5:Nat->List au->XF->XF
 |_,[],f=>f
 |k,s::r,f=>O5 (k+1) r (f.define s (.proc (2 *k)))
theorem DZ(w:z.ns.Nodup):∀(l:List au) (k:Nat) (f:Fr) (g:XF),qB z O f g->(∀j,j<k+l.length->nQ O (.proc (2 *j)))->g.ns.length+l.length<=f.ns.length+14->qB z O (oH (dp z vs) k l f) (O5 k l g)
 |[],k,f,g,h,_,_=>h
 |s::r,k,f,g,h,q,v=>by
  unfold oH O5;have B:(g.define s (.proc (2 *k))).ns.length<=g.ns.length+1:=by unfold XF.define;split<;>simp[XF.put]
  simp only[j1] at v;refine DZ w r (k+1) _ _ ?_ (λj D=>q j (by simp;omega)) ?_
  rotate_left
  .split
   .have y:f.ns.length<=(f.define (List.idxOf s (dp z vs).ns:Nat) (.proc (2 *k))).ns.length:=by unfold Fr.define;split<;>simp[Fr.put]
    omega
   .omega
  split
  .rename_i d
   have hm:s∈z.ns:=by
    have d:z.ns.contains s=true:=d;rw[RJ] at d;simpa using d
   have hi:z.ns[z.ns.idxOf s]? =some s:=by rw[fA (Sv hm),Tj]
   exact h.define w hi (q k (by simp))
  .rename_i d
   have hm:s∉z.ns:=by
    have d:¬z.ns.contains s=true:=d;rw[RJ] at d;simpa using d
   unfold XF.define;have m:∀(i:Nat) (s2:au),z.ns[i]? =some s2->s≠s2:=λi s2 h2 e=>hm (by rw[e];exact Sw h2);cases hx:dE g.ns s with
   |some k2=>
    refine⟨h.out,h.l1,by simp only[XF.put,s5];exact h.l2,h.l3,h.rng,h.nd,λi s2 h2=> ?_,λu c=> ?_⟩
    .rw[h.lk i s2 h2];unfold px XF.put;simp only;cases h1:dE g.ns s2 with
     |none=>rfl
     |some k3=>
      have A:k2≠k3:=λe=>by
       have a:=ic _ _ _ h1;have b:=ic _ _ _ hx;rw[<-e,b] at a;cases a;exact m i _ h2 rfl
      rw[F2,F2,PV A]
    .have c:u∈g.vs.set k2 (.proc (2 *k)):=c;rcases SW c with h1|h1
     .exact h.ok u h1
     .subst h1;exact q k (by simp)
   |none=>
    refine⟨h.out,h.l1,by simp[h.l2],by simp;omega,h.rng,h.nd,λi s2 h2=> ?_,λu c=> ?_⟩
    .rw[h.lk i s2 h2];unfold px;simp only;rw[oi];cases h1:dE g.ns s2 with
     |none=>simp only;rw[fb (m i s2 h2)];rfl
     |some k3=>
      simp only[F2];have:=cy (ic _ _ _ h1);rw[o5 (by rw[<-h.l2];exact this)]
    .simp only[SO,Se] at c;rcases c with c|c
     .exact h.ok u c
     .subst c;exact q k (by simp)
def nJ(C:Cd)(s:MS)(a:Nat)(s':MS):Prop:=∃k,∀K n made,made+a<=n->kI C (k+K) s n made=kI C K s' n (made+a)
def Tw(C:Cd)(s:MS)(a:Nat)(r:RR):Prop:=∃F,∀n made,made+a<=n->kI C F s n made=some (made+a,r)
theorem nJ.refl(C:Cd)(s:MS):nJ C s 0 s:=⟨0,λK n made _=>by rw[C4,rn]⟩
theorem nJ.trans{a b:Nat}(h:nJ C s a s1)(k:nJ C s1 b s2):nJ C s (a+b) s2:=by
 obtain⟨x,c⟩:=h;obtain⟨y,d⟩:=k;refine⟨x+y,λK n made l=> ?_⟩;rw[RU,c (y+K) n made (by omega),d K n (made+a) (by omega),RU]
def qX(op:Int):Nat:=if op=12 then 1 else 0
theorem nX(op:Int)(made:Nat):(if op=12 then made+1 else made)=made+qX op:=by unfold qX;split<;>rfl
theorem nW{n:Nat}(h:made+qX op<=n):¬(op=12/\made=n):=by
 rintro⟨h1,h2⟩;unfold qX at h;rw[fN h1] at h;omega
theorem iv(hp:s.pc=(p:Int))(hi:z.is[p]? =some (op,n)):iW (dp z vs) s=some (op,n):=by
 unfold iW;rw[hp,fN (by omega)];exact hi
theorem nJ.one(hp:s.pc=(p:Int))(hi:z.is[p]? =some (op,n))(c:0<=n)(ho:dV (dp z vs) {s with pc:=(p:Int)+1} op n=.ok s'):nJ (dp z vs) s (qX op) s':=by
 refine⟨1,λK m made b=> ?_⟩;have d:iQ (dp z vs) s=.ok s':=by
  unfold iQ;rw[iv hp hi];simp only;rw[fN c,hp];exact ho
 rw[show 1+K=K+1 by omega,kI,iv hp hi];simp only;rw[fb (nW b),d,nX]
theorem Tw.err{d:Nat}(hp:s.pc=(p:Int))(hi:z.is[p]? =some (op,n))(c:0<=n)(ho:dV (dp z vs) {s with pc:=(p:Int)+1} op n=.err e d o):Tw (dp z vs) s (qX op) (.err e d o):=by
 refine⟨1,λm made b=> ?_⟩;have h:iQ (dp z vs) s=.err e d o:=by
  unfold iQ;rw[iv hp hi];simp only;rw[fN c,hp];exact ho
 rw[kI,iv hp hi];simp only;rw[fb (nW b),h,nX]
theorem Tw.done(hp:s.pc=(p:Int))(hi:z.is[p]? =some (op,n))(c:0<=n)(ho:dV (dp z vs) {s with pc:=(p:Int)+1} op n=.done t o):Tw (dp z vs) s (qX op) (.done t o):=by
 refine⟨1,λm made b=> ?_⟩;have d:iQ (dp z vs) s=.done t o:=by
  unfold iQ;rw[iv hp hi];simp only;rw[fN c,hp];exact ho
 rw[kI,iv hp hi];simp only;rw[fb (nW b),d,nX]
def NG(J:Option Nat)(f:Nat)(st:List En):Prop:=∀q,J=some q->∃t r,st=t::r/\t.nx=(q:Int)/\t.fr=f
def Re(z:BS)(vs:List V)(e:En)(k:XK)(r:List En):Prop:=∃n:Nat,e.nx=(n:Int)/\match k with
 |.test f b c=>e.fr=f/\∃t:Nat,z.is[n]? =some (8,(t:Int))/\lB z vs b (n+1) none/\lB z vs c t none
 |.bind f s=>e.fr=f/\∃(i:Nat) (J:Option Nat),z.is[n]? =some (9,(i:Int))/\z.ns[i]? =some s/\A5 z (n+1) J/\NG J f r
 |.change f s=>e.fr=f/\∃(i:Nat) (J:Option Nat),z.is[n]? =some (10,(i:Int))/\z.ns[i]? =some s/\A5 z (n+1) J/\NG J f r
 |.rest f es=>e.fr=f/\∃J:Option Nat,tf z vs es 6 n J/\NG J f r
 |.args f es got=>e.fr=f/\e.got=got/\got.length<=n/\KM z vs es 5 n
def lD(z:BS)(vs:List V):List En->List XK->List X->Prop
 |st,[],fs=>∃e,st=[e]/\e.fr=0/\∃n:Nat,e.nx=(n:Int)/\nN z vs fs n
 |st,k::ch,fs=>∃e r,st=e::r/\Re z vs e k r/\lD z vs r ch fs
theorem lD.top:∀{st:List En} {ch:List XK} {fs:List X},lD z vs st ch fs->∃t r,st=t::r/\r.length=ch.length
 |st,[],fs,⟨e,h,_⟩=>⟨e,[],h,rfl⟩
 |st,k::ch,fs,⟨e,r,h,_,h2⟩=>by
  obtain⟨t,b,h1,h2⟩:=lD.top h2;exact⟨e,r,h,by rw[h1];simp[h2]⟩
def GH(O:List (Option XP))(a:Nat):XK->Prop
 |.test f _ _=>f<a
 |.bind f _=>f<a
 |.change f _=>f<a
 |.rest f _=>f<a
 |.args f _ got=>f<a/\∀v∈got,nQ O v
def my(O:List (Option XP))(a:Nat)(ch:List XK):Prop:=ch.length<=200/\∀k∈ch,GH O a k
theorem GH.more(h:GH O nf k)(b:nf<=nf'):GH O nf' k:=by
 cases k<;>simp only[GH] at h ⊢<;>first|exact gr h b|exact⟨gr h.1 b,h.2⟩
theorem GH.snoc(x:Option XP)(h:GH O nf k):GH (O++[x]) nf k:=by
 cases k<;>simp only[GH] at h ⊢<;>first|exact h|exact⟨h.1,λv b=>(h.2 v b).snoc x⟩
theorem my.more{ch:List XK}(h:my O nf ch)(c:nf<=nf'):my O nf' ch:=⟨h.1,λk b=>(h.2 k b).more c⟩
theorem my.snoc{ch:List XK}(x:Option XP)(h:my O nf ch):my (O++[x]) nf ch:=⟨h.1,λk b=>(h.2 k b).snoc x⟩
theorem my.tail{ch:List XK}(h:my O nf (k::ch)):my O nf ch:=⟨by have:=h.1;simp at this;omega,λq b=>h.2 q (by simp[b])⟩
theorem my.cons{ch:List XK}(h:my O nf ch)(d:ch.length<200)(b:GH O nf k):my O nf (k::ch):=⟨by simp;omega,λq c=>by
 rcases RD.1 c with e|e
 .subst e;exact b
 .exact h.2 q e⟩
def PX(z:BS)(vs:List V)(O:List (Option XP))(b:Nat):PK->XP->Prop
 |.first k,.first d=>k=d/\k<14
 |.clo l f,.clo xs a c=>f=c/\f<b/\∃(nm:au) (ns:List Nat) (e:Nat),z.ls[l]? =some (nm,ns,e)/\jC z ns xs/\xs.Nodup/\lB z vs a e none
 |.kont st,.kont ch fs=>lD z vs st ch fs/\my O b ch
 |_,_=>False
theorem PX.more(b:nf<=nf'):∀{p:PK} {q:XP},PX z vs O nf p q->PX z vs O nf' p q
 |.first _,.first _,h=>h
 |.clo _ _,.clo _ _ _,h=>⟨h.1,gr h.2.1 b,h.2.2⟩
 |.kont _,.kont _ _,h=>⟨h.1,h.2.more b⟩
 |.first _,.clo _ _ _,h=>h.elim
 |.first _,.kont _ _,h=>h.elim
 |.clo _ _,.first _,h=>h.elim
 |.clo _ _,.kont _ _,h=>h.elim
 |.kont _,.first _,h=>h.elim
 |.kont _,.clo _ _ _,h=>h.elim
theorem PX.snoc(x:Option XP):∀{p:PK} {q:XP},PX z vs O nf p q->PX z vs (O++[x]) nf p q
 |.first _,.first _,h=>h
 |.clo _ _,.clo _ _ _,h=>h
 |.kont _,.kont _ _,h=>⟨h.1,h.2.snoc x⟩
 |.first _,.clo _ _ _,h=>h.elim
 |.first _,.kont _ _,h=>h.elim
 |.clo _ _,.first _,h=>h.elim
 |.clo _ _,.kont _ _,h=>h.elim
 |.kont _,.first _,h=>h.elim
 |.kont _,.clo _ _ _,h=>h.elim
def OX(z:BS)(vs:List V)(O:List (Option XP))(a:Nat):Option PK->Option XP->Prop
 |none,none=>True
 |some p,some q=>PX z vs O a p q
 |_,_=>False
theorem OX.more(b:nf<=nf'):∀{p:Option PK} {q:Option XP},OX z vs O nf p q->OX z vs O nf' p q
 |none,none,_=>trivial
 |some _,some _,h=>PX.more b h
 |none,some _,h=>h.elim
 |some _,none,h=>h.elim
theorem OX.snoc(x:Option XP):∀{p:Option PK} {q:Option XP},OX z vs O nf p q->OX z vs (O++[x]) nf p q
 |none,none,_=>trivial
 |some _,some _,h=>PX.snoc x h
 |none,some _,h=>h.elim
 |some _,none,h=>h.elim
structure N9(z:BS)(vs:List V)(O:List (Option XP))(a:Nat)(l:List (Option PK)):Prop where
 len:l.length=O.length
 at':∀(i:Nat) p q,l[i]? =some p->O[i]? =some q->OX z vs O a p q
theorem N9.more{l:List (Option PK)}(h:N9 z vs O nf l)(b:nf<=nf'):N9 z vs O nf' l:=⟨h.len,λi p q h1 h2=>(h.at' i p q h1 h2).more b⟩
theorem N9.add{l:List (Option PK)}(h:N9 z vs O nf l){p:Option PK}{q:Option XP}(hp:OX z vs O nf p q):N9 z vs (O++[q]) nf (l++[p]):=by
 refine⟨by simp[h.len],λi a b h1 h2=> ?_⟩;rcases sb i l.length with c|c
 .rw[o5 c] at h1;rw[o5 (by rw[<-h.len];exact c)] at h2;exact(h.at' i a b h1 h2).snoc q
 .rw[s7 c] at h1;rw[s7 (by rw[<-h.len];exact c),<-h.len] at h2;have:i-l.length=0:=by
   have:=cy h1;simp at this;omega
  rw[this] at h1 h2;cases h1;cases h2;exact hp.snoc q
structure Cm(z:BS)(vs:List V)(s:MS)(x:XS):Prop where
 out:s.out=x.out
 f0:0<x.frs.length
 fr:lW z x.obs s.frs x.frs
 ob:N9 z vs x.obs x.frs.length s.obs
 ch:my x.obs x.frs.length x.ch
def Rr(z:BS)(vs:List V)(s:MS)(x:XS):XM->Prop
 |.next=>s.fr=0/\s.val=x.last/\∃p:Nat,s.pc=(p:Int)/\nN z vs x.fs p
 |.ev e=>s.fr=x.fr/\x.fr<x.frs.length/\lD z vs s.st x.ch x.fs/\∃(p:Nat) (J:Option Nat),s.pc=(p:Int)/\lB z vs e p J/\NG J x.fr s.st
 |.back v=>s.val=some v/\nQ x.obs v/\lD z vs s.st x.ch x.fs/\∃t r,s.st=t::r/\s.pc=t.nx/\s.fr=t.fr
 |.app q a=>s.app=some (q,a)/\nQ x.obs q/\(∀v∈a,nQ x.obs v)/\lD z vs s.st x.ch x.fs/\∃p:Nat,s.pc=(p:Int)/\z.is[p]? =some (12,0)
structure Rel(z:BS)(vs:List V)(s:MS)(x:XS):Prop where
 cm:Cm z vs s x
 md:Rr z vs s x x.md
def kl(z:BS)(vs:List V)(s:MS)(a:Nat):XR->Prop
 |.ok b=>∃s',nJ (dp z vs) s a s'/\Rel z vs s' b
 |.err e d o=>Tw (dp z vs) s a (.err e d o)
 |.done t o=>Tw (dp z vs) s a (.done t o)
 |.bad=>False
theorem kl.after{a b:Nat}(h:nJ (dp z vs) s a s1):∀{r:XR},kl z vs s1 b r->kl z vs s (a+b) r
 |.ok q,⟨s',h1,h2⟩=>⟨s',h.trans h1,h2⟩
 |.err e d o,⟨F,c⟩=>by
  obtain⟨k,l⟩:=h;exact⟨k+F,λn made m=>by rw[l F n made (by omega),c n (made+a) (by omega),RU]⟩
 |.done t o,⟨F,c⟩=>by
  obtain⟨k,l⟩:=h;exact⟨k+F,λn made m=>by rw[l F n made (by omega),c n (made+a) (by omega),RU]⟩
 |.bad,h=>h.elim
theorem nz{v:V}(b:Cm z vs s x)(d:lD z vs s.st x.ch x.fs)(m:s.val=some v)(c:nQ x.obs v)(hm:x.md=.back v)(hp:s.pc=(p:Int))(h:A5 z p J)(w:NG J s.fr s.st):∃s',nJ (dp z vs) s 0 s'/\Rel z vs s' x:=by
 obtain⟨t,r,l,_⟩:=d.top;cases J with
 |some q=>
  obtain⟨B,A,u,e2,e3⟩:=w q rfl;have y:p=q:=h;refine⟨s,nJ.refl _ _,b,?_⟩;rw[hm];exact⟨m,c,d,B,A,u,by rw[hp,e2,y],e3.symm⟩
 |none=>
  refine⟨{s with pc:=t.nx,fr:=t.fr},?_,⟨b.out,b.f0,b.fr,b.ob,b.ch⟩,?_⟩
  .exact nJ.one (op:=13) (n:=0) hp h (by omega) (by simp only[dV,l])
  .rw[hm];exact⟨m,c,d,t,r,l,rfl,rfl⟩
theorem kU{e:X}(b:Cm z vs s x)(m:lD z vs s.st x.ch x.fs)(hf:s.fr=x.fr)(c:x.fr<x.frs.length)(hp:s.pc=(p:Int))(hi:z.is[p]? =some (4,(r:Int)))(v:lB z vs e (p+1) (some r))(w:Re z vs ⟨s.fr,(r:Int),[]⟩ k s.st)(y:GH x.obs x.frs.length k):kl z vs s 0 (iB x k e):=by
 obtain⟨t,r0,u,l⟩:=m.top;have B:s.st.length=x.ch.length+1:=by rw[u];simp[l]
 have d:=b.ch.1;unfold iB jl;split
 .rename_i h
  refine Tw.err (op:=4) hp hi (by omega) ?_;simp only[dV];rw[fN (by omega)];unfold eE;simp only[u,l,b.out]
 .rename_i h
  refine⟨{s with pc:=(p:Int)+1,st:=⟨s.fr,(r:Int),[]⟩::s.st},?_,⟨b.out,b.f0,b.fr,b.ob,b.ch.cons (by omega) y⟩,?_⟩
  .refine nJ.one (op:=4) hp hi (by omega) ?_;simp only[dV];rw[fb (by omega),fb (by omega)]
  .refine⟨hf,c,⟨_,_,rfl,w,m⟩,p+1,some r,by simp,v,λq A=> ?_⟩;cases A;exact⟨_,_,rfl,rfl,hf⟩
theorem Qk{q:Int×Int}(h:z.is[p]? =some q):p<z.is.length:=cy h
theorem kl.qJ(h:nJ (dp z vs) s 0 s1){r:XR}(k:kl z vs s1 0 r):kl z vs s 0 r:=kl.after h k
theorem Pf(Y:cD z)(e:X)(h:Rel z vs s x)(hm:x.md=.ev e):kl z vs s 0 (Gq x e):=by
 obtain⟨d,L⟩:=h;rw[hm] at L;obtain⟨hf,u,A,p,J,hp,w,D⟩:=L;cases e with
 |const v=>
  simp only[lB] at w;obtain⟨⟨n,h1,h2,h3⟩,y⟩:=w;have st:=nJ.one (vs:=vs) (s:=s) (s':={s with pc:=(p:Int)+1,val:=some v}) (op:=1) hp h1 (by omega) (by
   have:(dp z vs).cs[((n:Nat):Int).toNat]? =some v:=h2;simp only[dV,this])
  refine kl.qJ st ?_;exact nz (x:={x with md:=.back v}) (p:=p+1) ⟨d.out,d.f0,d.fr,d.ob,d.ch⟩ A rfl h3.ok rfl (by simp) y (by rw[show(({s with pc:=(p:Int)+1,val:=some v}:MS)).fr=x.fr from hf];exact D)
 |var nm=>
  simp only[lB] at w;obtain⟨⟨n,h1,h2⟩,y⟩:=w;simp only[Gq];obtain⟨t,r0,P,H⟩:=A.top;rcases d.fr.find h2 (x.fr+1) x.fr with⟨I,K⟩|⟨q,j,m,fr,xf,v,I,K,T,U,V,Z,q7,W,M⟩
  .rw[K];refine Tw.err (op:=2) hp h1 (by omega) ?_;simp only[dV,hf,I,eE,P,H,d.out]
  .rw[K];simp only[U,M];have st:=nJ.one (vs:=vs) (s:=s) (s':={s with pc:=(p:Int)+1,val:=some v}) (op:=2) hp h1 (by omega) (by simp only[dV,hf,I,T,W]);refine kl.qJ st ?_;exact nz (x:={x with md:=.back v}) (p:=p+1) ⟨d.out,d.f0,d.fr,d.ob,d.ch⟩ A rfl (V.ok v (Sw M)) rfl (by simp) y (by rw[show(({s with pc:=(p:Int)+1,val:=some v}:MS)).fr=x.fr from hf];exact D)
 |ite a b c=>
  simp only[lB] at w;obtain⟨r,t,B,h1,h2,h3,y,F⟩:=w;exact kU d A hf u hp h1 h2 ⟨r,rfl,hf,t,h3,y,F⟩ u
 |define nm a=>
  simp only[lB] at w;obtain⟨r,n,B,h1,h2,h3,y,F⟩:=w;exact kU d A hf u hp h1 h2 ⟨r,rfl,hf,n,J,h3,y,F,D⟩ u
 |set nm a=>
  simp only[lB] at w;obtain⟨r,n,B,h1,h2,h3,y,F⟩:=w;exact kU d A hf u hp h1 h2 ⟨r,rfl,hf,n,J,h3,y,F,D⟩ u
 |lambda xs a=>
  simp only[lB] at w;obtain⟨⟨l,nm,ns,e,h1,h2,h3,G,E⟩,y⟩:=w;have H:=d.ob.len;have st:=nJ.one (vs:=vs) (s:=s) (s':={s with pc:=(p:Int)+1,val:=some (.proc (2 *s.obs.length)),obs:=s.obs++[some (.clo l s.fr)]}) (op:=3) hp h1 (by omega) (by
   have:l<(dp z vs).ls.length:=cy h2;simp only[dV,Int.toNat_natCast];rw[fN this])
  refine kl.qJ st ?_;refine nz (x:={x with md:=.back (.proc (2 *x.obs.length)),obs:=x.obs++[some (.clo xs a x.fr)]}) (v:=.proc (2 *x.obs.length)) (p:=p+1) ⟨d.out,d.f0,d.fr.snoc _,?_,d.ch.snoc _⟩ A (by simp only[H]) ⟨by omega,_,by rw[show 2 *x.obs.length/2=x.obs.length by omega];simp;rfl⟩ rfl (by simp) y (by show NG J s.fr s.st;rw[hf];exact D);exact d.ob.add (p:=some (.clo l s.fr)) ⟨hf,by rw[hf];exact u,nm,ns,e,h2,h3,G,E⟩
 |seq es=>
  simp only[lB] at w;obtain⟨B,h1⟩:=w
  match es,B,h1 with
  |e::e2::r,_,h1=>
   rw[tf] at h1
   .obtain⟨t,S,k1,k2,k3⟩:=h1;exact kU d A hf u hp k1 k2 ⟨t,rfl,hf,J,k3,D⟩ u
   .simp
 |apply es=>
  simp only[lB] at w;obtain⟨B,h1⟩:=w
  match es,B,h1 with
  |e::r,_,h1=>
   simp only[KM] at h1;obtain⟨t,S,k1,k2,k3⟩:=h1;exact kU d A hf u hp k1 k2 ⟨t,rfl,hf,rfl,kc _,k3⟩ ⟨u,λv Q=>by simp at Q⟩
theorem J5{v:V}{ch:List XK}(hz:cD z)(hn:z.is.length<=1000000/\z.ns.length<1000000)(h:Rel z vs s x)(hm:x.md=.back v)(L:x.ch=k::ch):kl z vs s 0 (ix {x with ch:=ch} v k):=by
 obtain⟨d,hd⟩:=h;rw[hm] at hd;obtain⟨K,E,D,S,r0,F,hp,hf⟩:=hd;rw[L] at D;obtain⟨e,r,he,T,D⟩:=D;rw[F] at he;cases he;obtain⟨n,W,P⟩:=T;rw[W] at hp;have y:=d.ch;rw[L] at y;have w:=y.tail;have l:=y.2 k (by simp);have M:ch.length<200:=by have:=y.1;simp at this;omega
 obtain⟨t1,r1,X,U⟩:=D.top;cases k with
 |test f b c=>
  obtain⟨k1,t,k2,k3,A⟩:=P;refine⟨{s with st:=r0,pc:=if cj v (.bool false) then(t:Int) else(n:Int)+1},?_,⟨d.out,d.f0,d.fr,d.ob,w⟩,?_⟩
  .exact nJ.one (op:=8) hp k2 (by omega) (by simp only[dV,F,K])
  .refine⟨hf.trans k1,l,D,?_⟩;cases hsv:cj v (.bool false) with
   |true=>exact⟨t,none,rfl,A,λq H=>by cases H⟩
   |false=>exact⟨n+1,none,by simp,k3,λq H=>by cases H⟩
 |bind f nm=>
  obtain⟨k1,i,J,k2,k3,A,k5⟩:=P;have B:s.fr=f:=hf.trans k1;have l:f<x.frs.length:=l;obtain⟨fr,xf,g1,g2,g3⟩:=d.fr.get l;simp only[ix,g2];have h0:=g3.len;have st:=nJ.one (vs:=vs) (s:=s) (s':={s with pc:=(n:Int)+1,st:=r0,val:=some .nothing,frs:=s.frs.set f (fr.define i v)}) (op:=9) hp k2 (by omega) (by
   simp only[dV,F,K,B,g1];rw[fN (by omega)])
  refine kl.qJ st ?_;exact nz (x:={x with ch:=ch,md:=.back .nothing,frs:=x.frs.set f (xf.define nm v)}) (v:=.nothing) (p:=n+1) ⟨d.out,by simp only[s5];exact d.f0,d.fr.set f (g3.define hz.nd k3 E),by simp only[s5];exact d.ob,by simp only[s5];exact w⟩ D rfl trivial rfl (by simp) A (by show NG J s.fr r0;rw[B];exact k5)
 |change f nm=>
  obtain⟨k1,i,J,k2,k3,A,k5⟩:=P;have B:s.fr=f:=hf.trans k1;simp only[ix];rcases d.fr.find k3 (f+1) f with⟨q1,q2⟩|⟨q,j,m,fr,xf,u,q1,q2,q3,q4,q5,q6,q7,q8,q9⟩
  .rw[q2];refine Tw.err (op:=10) hp k2 (by omega) ?_;simp only[dV,F,K,B,q1,eE,X,U,d.out]
  .rw[q2];simp only[q4];have st:=nJ.one (vs:=vs) (s:=s) (s':={s with pc:=(n:Int)+1,st:=r0,val:=some .nothing,frs:=s.frs.set q (fr.put j v)}) (op:=10) hp k2 (by omega) (by simp only[dV,F,K,B,q1,q3]);refine kl.qJ st ?_;exact nz (x:={x with ch:=ch,md:=.back .nothing,frs:=x.frs.set q (xf.put m v)}) (v:=.nothing) (p:=n+1) ⟨d.out,by simp only[s5];exact d.f0,d.fr.set q (q5.put hz.nd k3 q6 q7 E),by simp only[s5];exact d.ob,by simp only[s5];exact w⟩ D rfl trivial rfl (by simp) A (by show NG J s.fr r0;rw[B];exact k5)
 |rest f es=>
  obtain⟨k1,J,k2,k3⟩:=P
  match es,k2 with
  |[],k2=>simp[tf] at k2
  |[e],k2=>
   simp only[tf] at k2;refine⟨{s with pc:=(n:Int)+1,st:=r0},?_,⟨d.out,d.f0,d.fr,d.ob,w⟩,?_⟩
   .exact nJ.one (op:=7) hp k2.1 (by omega) (by simp only[dV,F])
   .exact⟨hf.trans k1,l,D,n+1,J,by simp,k2.2,k3⟩
  |e::e2::es,k2=>
   rw[tf] at k2
   .obtain⟨t,j0,Q,Y,Z⟩:=k2;refine⟨{s with pc:=(n:Int)+1,st:=⟨S.fr,(t:Int),S.got⟩::r0},?_,⟨d.out,d.f0,d.fr,d.ob,w.cons M l⟩,?_⟩
    .exact nJ.one (op:=6) hp Q (by omega) (by simp only[dV,F])
    .exact⟨hf.trans k1,l,⟨_,_,rfl,⟨t,rfl,k1,J,Z,k3⟩,D⟩,n+1,some t,by simp,Y,λq H=>by cases H;exact⟨_,_,rfl,rfl,k1⟩⟩
   .simp
 |args f es got=>
  obtain⟨k1,k2,k3,A⟩:=P
  match es,A with
  |[],A=>
   simp only[KM] at A;simp only[ix];cases hr:(v::got).reverse with
   |nil=>simp at hr
   |cons q a=>
    have G:∀u∈q::a,nQ x.obs u:=λu I=>by
     rw[<-hr,List.mem_reverse] at I;rcases RD.1 I with e|e
     .subst e;exact E
     .exact l.2 u e
    refine⟨{s with pc:=(n:Int)+1,app:=some (q,a),st:=r0},?_,⟨d.out,d.f0,d.fr,d.ob,w⟩,?_⟩
    .exact nJ.one (op:=11) hp A.1 (by omega) (by simp only[dV,F,K,k2,hr])
    .exact⟨rfl,G q (by simp),λu I=>G u (by simp[I]),D,n+1,by simp,A.2⟩
  |e::es,A=>
   simp only[KM] at A;obtain⟨t,j0,Q,Y,Z⟩:=A;have h1:=Qk Q;refine⟨{s with pc:=(n:Int)+1,st:=⟨S.fr,(t:Int),v::S.got⟩::r0},?_,⟨d.out,d.f0,d.fr,d.ob,w.cons M ⟨l.1,λu I=> ?_⟩⟩,?_⟩
   .exact nJ.one (op:=5) hp Q (by omega) (by simp only[dV,F,K];rw[fN (by rw[k2];omega)])
   .rcases RD.1 I with e|e
    .subst e;exact E
    .exact l.2 u e
   .exact⟨hf.trans k1,l.1,⟨_,_,rfl,⟨t,rfl,k1,by rw[k2],by simp;omega,Z⟩,D⟩,n+1,some t,by simp,Y,λq H=>by cases H;exact⟨_,_,rfl,rfl,k1⟩⟩
def NK(z:BS)(vs:List V):SR->XR->Prop
 |.ok s',.ok c=>Rel z vs s' c
 |.err e d o,.err e' a b=>e=e'/\d=a/\o=b
 |_,_=>False
theorem Pg(hp:s.pc=(p:Int))(hi:z.is[p]? =some (12,0)):∀{r:XR},NK z vs (nS (dp z vs) {s with pc:=(p:Int)+1}) r->kl z vs s 1 r:=by
 intro r h;cases hr:nS (dp z vs) {s with pc:=(p:Int)+1} with
 |ok s'=>
  rw[hr] at h;cases r with
  |ok b=>exact⟨s',nJ.one (op:=12) hp hi (by omega) (by simp only[dV,hr]),h⟩
  |err _ _ _=>exact h.elim
  |done _ _=>exact h.elim
  |bad=>exact h.elim
 |err e d o=>
  rw[hr] at h;cases r with
  |ok b=>exact h.elim
  |err e' c l=>
   obtain⟨rfl,rfl,rfl⟩:=h;exact Tw.err (op:=12) hp hi (by omega) (by simp only[dV,hr])
  |done _ _=>exact h.elim
  |bad=>exact h.elim
 |done t o=>rw[hr] at h;cases r<;>exact h.elim
 |bad=>rw[hr] at h;cases r<;>exact h.elim
theorem jP{v:V}(b:Cm z vs s x)(c:lD z vs s.st x.ch x.fs)(h:nQ x.obs v):NK z vs (du s v) (fX x v):=by
 obtain⟨t,r,d,l⟩:=c.top;unfold du fX;rw[d];exact⟨⟨b.out,b.f0,b.fr,b.ob,b.ch⟩,rfl,h,by simpa only[d] using c,t,r,rfl,rfl,rfl⟩
theorem iK(b:Cm z vs s x)(d:lD z vs s.st x.ch x.fs):NK z vs (eE s e) (jl x e):=by
 obtain⟨t,r,h,c⟩:=d.top;unfold eE jl;rw[h];exact⟨rfl,c,b.out⟩
theorem rO(f:Int->Int->V)(hf:∀a b,nQ x.obs (f a b))(c:Cm z vs s x)(d:lD z vs s.st x.ch x.fs)(u v:V):NK z vs (lR s f u v) (rN x f u v):=by
 cases u<;>cases v<;>first|exact jP c d (hf _ _)|exact iK c d
theorem iR{l:List α}(h:l.length=2):∃a b,l=[a,b]:=by
 match l,h with
 |[a,b],_=>exact⟨a,b,rfl⟩
theorem iP{l:List α}(h:l.length=1):∃a,l=[a]:=by
 match l,h with
 |[a],_=>exact⟨a,rfl⟩
theorem LY(b:Cm z vs s x)(d:lD z vs s.st x.ch x.fs)(m:∀v∈a,nQ x.obs v)(hp:s.pc=(p:Int)+1)(hi:z.is[p]? =some (12,0)):∀(k:Nat),k<14->a.length=eD k->NK z vs (bV (dp z vs) s k a) (fJ x k a)
 |0,_,c=>by obtain⟨u,v,rfl⟩:=iR c;refine rO _ (λ_ _=> ?_) b d u v;exact trivial
 |1,_,c=>by obtain⟨u,v,rfl⟩:=iR c;refine rO _ (λ_ _=> ?_) b d u v;exact trivial
 |2,_,c=>by obtain⟨u,v,rfl⟩:=iR c;refine rO _ (λ_ _=> ?_) b d u v;exact trivial
 |3,_,c=>by obtain⟨u,v,rfl⟩:=iR c;refine rO _ (λ_ _=> ?_) b d u v;exact trivial
 |4,_,c=>by obtain⟨u,v,rfl⟩:=iR c;refine rO _ (λ_ _=> ?_) b d u v;exact trivial
 |5,_,c=>by
  obtain⟨u,v,rfl⟩:=iR c;have l:=b.ob.len;show NK z vs (du {s with obs:=s.obs++[none]} (.pair (2 *s.obs.length) u v)) (fX {x with obs:=x.obs++[none]} (.pair (2 *x.obs.length) u v));rw[l];exact jP (x:={x with obs:=x.obs++[none]}) ⟨b.out,b.f0,b.fr.snoc _,b.ob.add (p:=none) (q:=none) trivial,b.ch.snoc _⟩ d ⟨(m u (by simp)).snoc _,(m v (by simp)).snoc _⟩
 |6,_,c=>by
  obtain⟨u,rfl⟩:=iP c;have h:=m u (by simp);cases u<;>first|exact iK b d|exact jP b d h.1
 |7,_,c=>by
  obtain⟨u,rfl⟩:=iP c;have h:=m u (by simp);cases u<;>first|exact iK b d|exact jP b d h.2
 |8,_,c=>by obtain⟨u,rfl⟩:=iP c;exact jP b d trivial
 |9,_,c=>by
  obtain⟨u,rfl⟩:=iP c;cases u<;>exact jP b d trivial
 |10,_,c=>by obtain⟨u,rfl⟩:=iP c;exact jP b d trivial
 |11,_,c=>by obtain⟨u,v,rfl⟩:=iR c;exact jP b d trivial
 |12,_,c=>by
  obtain⟨u,rfl⟩:=iP c;simp only[bV,fJ,b.out];split
  .exact iK b d
  .exact jP (s:={s with out:=x.out++[(bK u).take 100]}) (x:={x with out:=x.out++[(bK u).take 100]}) ⟨rfl,b.f0,b.fr,b.ob,b.ch⟩ d trivial
 |13,_,c=>by
  obtain⟨u,rfl⟩:=iP c;have l:=b.ob.len;simp only[bV,fJ];refine⟨⟨b.out,b.f0,b.fr.snoc _,b.ob.add (p:=some (.kont s.st)) ⟨d,b.ch⟩,b.ch.snoc _⟩,by simp only[l],(m u (by simp)).snoc _,λv w=> ?_,d,p,by simp only[hp];omega,hi⟩;simp only[Se] at w;subst w;exact⟨by omega,_,by rw[show 2 *x.obs.length/2=x.obs.length by omega];simp;rfl⟩
 |k+14,h,_=>by omega
theorem Q6(E:cD z)(c:Cm z vs s x)(d:lD z vs s.st x.ch x.fs)(m:∀v∈a,nQ x.obs v)(hp:s.pc=(p:Int)+1)(hi:z.is[p]? =some (12,0)):∀(k:PK) (q:XP),PX z vs x.obs x.frs.length k q->NK z vs (Hz (dp z vs) s a k) (DD x a q)
 |.first k,.first G,⟨h1,h2⟩=>by
  subst h1;unfold Hz DD;simp only;split
  .exact LY c d m hp hi k h2 (by assumption)
  .exact iK c d
 |.clo l f,.clo xs b F,⟨h1,h2,nm,ns,e,h3,u,A,B⟩=>by
  subst h1;unfold Hz DD;have:(dp z vs).ls[l]? =some (nm,ns,e):=h3;simp only[this,u.length];split
  .rename_i w
   refine⟨⟨c.out,by simp,c.fr.add (qB.new E.nd u A w m),by simp only[ga,Ix];exact c.ob.more (by omega),by simp only[ga,Ix];exact c.ch.more (by omega)⟩,c.fr.len,by simp,d,e,none,rfl,B,λq D=>by cases D⟩
  .exact iK c d
 |.kont st,.kont ch fs,⟨h1,h2⟩=>by
  obtain⟨t,r,y,w⟩:=h1.top;unfold Hz DD
  match a,m with
  |[],_=>exact iK c d
  |[v],m=>
   simp only[du,y];refine⟨⟨c.out,c.f0,c.fr,c.ob,h2⟩,rfl,m v (by simp),by rw[<-y];exact h1,t,r,rfl,rfl,rfl⟩
  |_::_::_,_=>exact iK c d
 |.first _,.clo _ _ _,h=>h.elim
 |.first _,.kont _ _,h=>h.elim
 |.clo _ _,.first _,h=>h.elim
 |.clo _ _,.kont _ _,h=>h.elim
 |.kont _,.first _,h=>h.elim
 |.kont _,.clo _ _ _,h=>h.elim
theorem Lm{q:V}(y:cD z)(b:Cm z vs s x)(h1:s.app=some (q,a))(h2:nQ x.obs q)(h3:∀v∈a,nQ x.obs v)(c:lD z vs s.st x.ch x.fs)(hp:s.pc=(p:Int)+1)(w:z.is[p]? =some (12,0)):NK z vs (nS (dp z vs) s) (dN x q a):=by
 unfold nS dN;rw[h1];cases q with
 |proc id=>
  obtain⟨h,k,d⟩:=h2;have l:=b.ob.len;have hb:s.obs[id/2]? =some (s.obs[id/2]'(by rw[l];exact cy d)):=fA _;have ho:=b.ob.at' _ _ _ hb d;have e2:sq x id=some k:=by unfold sq;rw[fN h,d]
  simp only[e2];cases hk:s.obs[id/2]'(by rw[l];exact cy d) with
  |none=>rw[hk] at ho;exact ho.elim
  |some m=>
   rw[hk] at ho hb;have u:sn s id=some m:=by unfold sn;rw[fN h,hb]
   simp only[u];exact Q6 y (s:={s with app:=none}) ⟨b.out,b.f0,b.fr,b.ob,b.ch⟩ c h3 hp w m k ho
 |int _=>exact iK b c
 |bool _=>exact iK b c
 |sym _=>exact iK b c
 |empty=>exact iK b c
 |nothing=>exact iK b c
 |pair _ _ _=>exact iK b c
theorem Nl{q:V}(u:cD z)(h:Rel z vs s x)(hm:x.md=.app q a):kl z vs s 1 (dN x q a):=by
 obtain⟨b,d⟩:=h;rw[hm] at d;obtain⟨h1,h2,h3,l,p,m,c⟩:=d;exact Pg m c (Lm u ⟨b.out,b.f0,b.fr,b.ob,b.ch⟩ h1 h2 h3 l rfl c)
theorem Ax(l:cD z)(E:z.is.length<=1000000/\z.ns.length<1000000)(h:Rel z vs s x):kl z vs s x.md.cost (dG x):=by
 unfold dG;cases hm:x.md with
 |next=>
  simp only;have d:=h.md;rw[hm] at d;obtain⟨h1,h2,p,h3,c⟩:=d;have b:=h.cm;cases hf:x.fs with
  |nil=>
   rw[hf] at c;simp only;refine Tw.done (op:=14) (n:=0) h3 c (by omega) ?_;simp only[dV,h2,b.out];cases x.last<;>rfl
  |cons e r=>
   rw[hf] at c;obtain⟨t,G,k1,k2,k3⟩:=c;refine⟨{s with pc:=(p:Int)+1,st:=[⟨s.fr,(t:Int),[]⟩]},nJ.one (op:=0) h3 k1 (by omega) (by simp only[dV]),⟨b.out,b.f0,b.fr,b.ob,by simp,λk D=>by simp at D⟩,h1,b.f0,⟨_,rfl,h1,t,rfl,k3⟩,p+1,none,by simp,k2,λq F=>by cases F⟩
 |ev e=>exact Pf l e h hm
 |back v=>
  simp only;cases hch:x.ch with
  |nil=>
   simp only;have d:=h.md;rw[hm] at d;obtain⟨h1,h2,h3,t,r,c,A,B⟩:=d;rw[hch] at h3;obtain⟨e,m,u,n,w,y⟩:=h3;rw[c] at m;cases m;have b:=h.cm;exact⟨s,nJ.refl _ _,⟨b.out,b.f0,b.fr,b.ob,by rw[<-hch];exact b.ch⟩,by rw[B,u],h1,n,by rw[A,w],y⟩
  |cons k ch=>exact J5 l E h hm hch
 |app q a=>exact Nl l h hm
def Rs(z:BS)(vs:List V):RR->jc->Prop
 |.run s,.run x=>Rel z vs s x/\x.md.isApp=true
 |.err e d o,.err e' b a=>e=e'/\d=b/\o=a
 |.done t o,.done c a=>t=c/\o=a
 |_,_=>False
theorem sF(P:cD z)(M:z.is.length<=1000000/\z.ns.length<1000000)(n:Nat):∀(d m:Nat) (s:MS) (x:XS) (made:Nat),n-made<=d->pW x<=m->made<=n->Rel z vs s x->∃F K c r q,kI (dp z vs) F s n made=some (c,r)/\wC K x n made=some (c,q)/\Rs z vs r q
 |d,m,s,x,made,T,hm,U,h=>by
  have l:=Ax P M h;by_cases u:x.md.isApp=true
  .by_cases y:made=n
   ·
    have A:=h.md;cases hx:x.md with
    |next=>rw[hx] at u;cases u
    |ev e=>rw[hx] at u;cases u
    |back v=>rw[hx] at u;cases u
    |app q a=>
     rw[hx] at A;obtain⟨_,_,_,_,p,Q,S⟩:=A;refine⟨1,1,made,.run s,.run x,?_,?_,h,u⟩
     .rw[kI,iv Q S];simp[y]
     .rw[wC,fN ⟨u,y⟩]
   .have b:x.md.cost=1:=by unfold XM.cost;rw[fN u]
    rw[b] at l;cases hs:dG x with
    |ok B=>
     rw[hs] at l;obtain⟨s',⟨k,L⟩,H⟩:=l;cases d with
     |zero=>omega
     |succ d=>
      obtain⟨F,K,c,r,q,D,E,G⟩:=sF P M n d (pW B) s' B (made+1) (by omega) (ew _) (by omega) H;refine⟨k+F,K+1,c,r,q,by rw[L F n made (by omega)];exact D,?_,G⟩;rw[wC,fb (λe=>y e.2),hs];simp only[b];exact E
    |err e d o=>
     rw[hs] at l;obtain⟨F,w⟩:=l;refine⟨F,1,made+1,.err e d o,.err e d o,w n made (by omega),?_,rfl,rfl,rfl⟩;rw[wC,fb (λe=>y e.2),hs,b]
    |done t o=>
     rw[hs] at l;obtain⟨F,w⟩:=l;refine⟨F,1,made+1,.done t o,.done t o,w n made (by omega),?_,rfl,rfl⟩;rw[wC,fb (λe=>y e.2),hs,b]
    |bad=>rw[hs] at l;exact l.elim
  .have I:x.md.isApp=false:=by simpa using u
   have b:x.md.cost=0:=by unfold XM.cost;rw[fb u]
   rw[b] at l;cases hs:dG x with
   |ok B=>
    rw[hs] at l;obtain⟨s',⟨k,L⟩,H⟩:=l;have V:=Mu I hs;cases m with
    |zero=>omega
    |succ m=>
     obtain⟨F,K,c,r,q,D,E,G⟩:=sF P M n d m s' B made T (by omega) U H;refine⟨k+F,K+1,c,r,q,by rw[L F n made (by omega)];exact D,?_,G⟩;rw[wC,fb (λe=>u e.1),hs];simp only[b];exact E
   |err e d o=>
    rw[hs] at l;obtain⟨F,w⟩:=l;refine⟨F,1,made+0,.err e d o,.err e d o,w n made (by omega),?_,rfl,rfl,rfl⟩;rw[wC,fb (λe=>u e.1),hs,b]
   |done t o=>
    rw[hs] at l;obtain⟨F,w⟩:=l;refine⟨F,1,made+0,.done t o,.done t o,w n made (by omega),?_,rfl,rfl⟩;rw[wC,fb (λe=>u e.1),hs,b]
   |bad=>rw[hs] at l;exact l.elim
termination_by d m=>(d,m)
theorem F6(u:cD z)(hf:nN z vs fs 0):Rel z vs (gT (dp z vs)) (fR fs):=by
 have d:∀j,j<14->nQ (fR fs).obs (.proc (2 *j)):=λj b=>⟨by omega,.first j,by
  rw[show 2 *j/2=j by omega];show((List.range 14).map λk=>some (XP.first k))[j]? =_;simp[b]⟩
 refine⟨⟨rfl,by simp[fR],⟨rfl,λi f x h1 h2=> ?_⟩,⟨rfl,λi p q h1 h2=> ?_⟩,by simp[fR],λk h=>by simp[fR] at h⟩,rfl,rfl,0,rfl,hf⟩
 .have hi:i=0:=by
   have:=cy h2;simp[fR] at this;exact this
  subst hi;have h1:some (oH (dp z vs) 0 aP ⟨[],[],none⟩)=some f:=h1;have h2:some (XF.mk aP ((List.range 14).map λk=>V.proc (2 *k)) none)=some x:=h2;cases h1;cases h2;exact DZ (vs:=vs) u.nd aP 0 ⟨[],[],none⟩ ⟨[],[],none⟩ ⟨rfl,rfl,rfl,by simp,λn l=>by simp at l,by simp,λi s _=>rfl,λv m=>by simp at m⟩ (λj b=>d j (by simpa[aP] using b)) (by simp[aP])
 .have hi:=cy h1;have hi:i<14:=by simpa[gT] using hi
  have c:(gT (dp z vs)).obs[i]? =some (some (PK.first i)):=by
   show((List.range 14).map λk=>some (PK.first k))[i]? =_;simp[hi]
  have e2:(fR fs).obs[i]? =some (some (XP.first i)):=by
   show((List.range 14).map λk=>some (XP.first k))[i]? =_;simp[hi]
  rw[c] at h1;rw[e2] at h2;cases h1;cases h2;exact⟨rfl,hi⟩
end Go.Proofs.YtlobegpjenabaaaGreatDoor
