import Derived.Test.YtlobegpjenabaaaGreatDoorT18
namespace Go.Proofs.YtlobegpjenabaaaGreatDoor
open Go.RowKit Tryz
set_option linter.unusedVariables false
set_option linter.defProp false
set_option maxRecDepth 100000
set_option maxHeartbeats 4000000
def RJ:=@List.contains_eq_mem
def Tj:=@List.getElem_idxOf
def To:=@List.nodup_append
variable {B M K L i i0 j0 j:Nat} {ow o1 o2 o1':Nat->Option Nat} {er de op n:Int} {va t:au} {o:List au} {X':a9} {w':aa} {C:Cd} {s:MS} {f:D->Option E} {mk:au->E->E} {a z:BS} {α:Type} {e:E}
def ErrT(w:aa):Prop:=w.cell? ⟨0,0,none⟩=some (.iface 235 (.agg #[.pointer (some ⟨7,103,none⟩)]))
theorem ErrT.lt{w:aa}(h:ErrT w):0<w.heap.size:=by
 rcases sb 0 w.heap.size with hlt|b
 .exact hlt
 .exfalso;unfold ErrT at h;simp only[World.cell?] at h;rw[S7 b] at h;cases h
def PR(w:aa)(m:Nat)(P:aa->Prop)(e:bo)(w':aa):Prop:=e=.returned (.tuple #[Jn (m:Nat),Jn 0])/\P w'
theorem Ng(w:aa)(M n m:Nat)(er d:Int)(hn:n<=100000)(P:aa->Prop)(R:Hid (cl 49 #[Pt M,Jn n] w λe w1=>∃ev k c E,e=.returned (.tuple #[Jn (m:Nat),ev])/\k<=2/\pH er k ev/\ErrT w1/\w1.heap[M]? =some (Obj.cells c 119 (0,0))/\c.size=12/\Cl w1 M 6 (Pt E)/\Cl w1 E 1 (Jn d)/\E<w1.heap.size/\∀h,Below w1.heap.size w1 h->P (nu h M 2 er d ⟨#[]⟩))):
  cl 37 #[Pt M,Jn n] w (PR w m P):=by
 have h0:¬((n:Int)<0):=by omega
 have h1:¬((100000:Int)<(n:Int)):=by omega
 go_enter func37,ntmps37;go_wp2_with fail;refine R.out.mono ?_;rintro e w1 ⟨ev,k,c,E,rfl,X,G,u,F,r,k6,J,D,N⟩;obtain⟨t,x,rfl⟩:=G.form;have q:=ai F;have H:=ag (Pz G X w1.heap.size (Jn 0) (w1.alloc (.cells #[Jn 0] 107)) ((kn _ _ _ u.lt).trans u) (by have:=u.lt;rw[show(w1.alloc (.cells #[Jn 0] 107)).heap.size=w1.heap.size+1 by simp];omega) ((Cb _ _ _ _ (by simp)).trans rfl) (World.frozen?_alloc_new _ _ _ _) (by simp));have HM:=ag (ei F r);have I:=ag N;have y:=ag (ei k6 J);clear G u F r N k6 J;go_wp2_with fail;refine H.out.mono ?_;rintro e h ⟨rfl,hc,O⟩;have g:Below w1.heap.size w1 h:=((fL _ w1).alloc (ew _) _).trans (O.below (by simp) (λj hj=>by omega));have m6:=(g.cell (p:=(dq M 6)) q).trans y.out.1;have m1:=(g.cell (p:=(dq E 1)) D).trans y.out.2;have l:=(g.block M q).trans HM.out.1;have b:∀o,o<12->∃v,Cl h.drew M o v:=λo ho=>by
  refine⟨c[o]'(by rw[HM.out.2];exact ho),?_⟩;show h.cell? _=_;rw[ae l];simp[HM.out.2,ho]
 have A:Hid (cl 51 #[Pt M,.agg #[Jn 2,Jn er,Jn d,.string ⟨#[]⟩]] h.drew (bD (.tuple #[]) (nu h.drew M 2 er d ⟨#[]⟩))):=by
  obtain⟨c1,Y⟩:=b 1 (by omega);obtain⟨c2,Z⟩:=b 2 (by omega);obtain⟨c3,q3⟩:=b 3 (by omega);obtain⟨S,q4⟩:=b 4 (by omega);obtain⟨T,q5⟩:=b 5 (by omega);obtain⟨U,q6⟩:=b 6 (by omega);obtain⟨V,q8⟩:=b 8 (by omega);obtain⟨W,q9⟩:=b 9 (by omega);obtain⟨c10,q10⟩:=b 10 (by omega);obtain⟨c11,q11⟩:=b 11 (by omega);exact AB h.drew M c1 c2 c3 S T U V W c10 c11 2 er d ⟨#[]⟩ (by show M<h.heap.size;have:=g.size;omega) Y Z q3 q4 q5 q6 q8 q9 q10 q11 (λo=>ah (w:=h.drew) l o)
 have Q:=ag (I.out h.drew g.drew);clear b l g O H I y HM;go_wp2_with fail;go_region_law (first|(refine nt rfl ?_;go_simp;go_at_call 51;refine A.out.mono ?_;rintro e w3 ⟨rfl,rfl⟩))
 all_goals
  go_wp2;go_ret2;exact⟨rfl,Q.out⟩
theorem Iw(w:aa)(M n:Nat)(st:Int)(l:(st==0)=false)(H:M<w.heap.size)(E:Cl w M 8 (Jn st))(J:n<=100000):
  cl 49 #[Pt M,Jn n] w (λe w'=>e=.returned (.tuple #[Jn ((0:Nat):Int),.nilIface])/\Below w.heap.size w w'):=by
 have k:∀(W:aa) (a:Addr) (m:Mode) (h:Fn) (x y:bc),(store a (.func h x y) m).run prog W=stored prog W a (.func h x y) m:=λW a m h x y=>TD _ _ _ _ _ rfl;obtain⟨b,c⟩:∃b,b=(w.alloc (.cells fQ 171)).alloc (.cells fQ 171):=⟨_,rfl⟩;have g:Below w.heap.size w b:=by rw[c];exact(aR _ _).alloc (by simp) _
 have D:Cl b M 8 (Jn st):=(g.cell (p:=(dq M 8)) H).trans E;have F:=ag g;have G:Hid (cl 52 #[Pt M] b (bD (.bool false) b)):=by
  have:=gM b M st D;rw[l] at this;exact this
 have u:=ag (uE w);have A:=ag c;clear g D E;go_enter func49,ntmps49;go_wp2_with fail;refine u.out.mono ?_;rintro e w1 ⟨rfl,rfl⟩;unfold fQ iM;go_wp2;have d:=A.out;simp only[fQ,iM,v6,SS] at d;rw[<-d];clear d A c u k
 go_loopw [7] (λv wr=>v=Jn 0/\wr=b) (λ_ _=>0)
 case atStart=>exact⟨rfl,rfl⟩
 case round=>
  obtain⟨rfl,q⟩:=hrel;obtain rfl:b=wr:=q.symm;go_wp2_with fail;refine G.out.mono ?_;rintro e I ⟨rfl,r⟩;obtain rfl:b=I:=r.symm;go_wp2;go_ret2;exact⟨rfl,F.out⟩
theorem D9{w:aa}{X:a9}{b:Nat}{st:Int}(c:(st==0)=false)(h:ME B w X ow M b st er de va o)(n:Nat)(g:n<=100000):
  cl 37 #[Pt M,Jn n] w (λe w'=>e=.returned (.tuple #[Jn ((0:Nat):Int),Jn 0])/\Below w.heap.size w w'):=by
 obtain⟨out,d,_⟩:=h;refine(Ea w M n 0 g (λw1=>Below w.heap.size w w1) (ag (Iw w M n st c (ai d) (bq d).2.2.2.2.2.2.2.2.1 g))).mono ?_;rintro e w' ⟨rfl,w1,h1,h2⟩;exact⟨rfl,h1.trans (h2.mono h1.size)⟩
def fq(o1 o2:Nat->Option Nat):Prop:=∀k,o1 k≠none->o2 k=none
theorem fq.symm(h:fq o1 o2):fq o2 o1:=λk b=>by
 cases e:o1 k with
 |none=>rfl
 |some t=>exact absurd (h k (by rw[e];simp)) b
theorem fq.gw{X:a9}{w:aa}(h:fq o1 o2)(g:Gw X o1 w X' o1' w')(p:mu w B X)(ho:∀k t,o2 k=some t->X k):fq o1' o2:=λk l=>by
 cases e:o2 k with
 |none=>rfl
 |some t=>
  obtain⟨_,c,T,d,_⟩:=p k (ho k t e);have m:=ai d;have h1:o1 k≠none:=λb=>l (g.o2 k m b);rw[h k h1] at e;cases e
theorem MR.other{w:aa}{X:a9}{b:Nat}(h:MR B K w X o2 M b C s)(m:Gw X o1 w X' o1' w')(F:fq o1 o2)(h1:∀k t,o1 k=some t->X k)(x:mu w' B X'):MR B K w' X' o2 M b C s:=by
 obtain⟨mo,mf,val,app,args,out,top,gf,A,hR⟩:=h;have q:∀k,o2 k≠none->o1 k=none:=λk l=>F.symm k l;have hS:∀k,o1 k≠none->X k:=λk l=>by
  cases e:o1 k with
  |none=>exact absurd e l
  |some t=>exact h1 k t e
 have d:∀k t,o2 k=some t->k<w.heap.size->w'.heap[k]? =w.heap[k]?:=λk t l G=>m.upd.block k G (λe=>e (q k (by rw[l];simp)));have l:=KI.aT (B:=B) (S:=λk=>o1 k≠none) (λk l=>hR.xty k (hS k l)) m.upd;have y:∀b,b<w.heap.size->¬X b->¬X' b/\w'.heap[b]? =w.heap[b]?:=λb hb q=>⟨λr=>q (m.x2 b hb r),m.upd.block b hb (λr=>q (hS b r))⟩;refine⟨mo,mf,val,app,args,out,top,gf,by rw[d M 0 hR.owM (ai A)];exact A,?_⟩;have u:∀k,X k->k<w.heap.size:=λk l=>by obtain⟨_,c,T,h1,_⟩:=hR.xty k l;exact ai h1
 have v:∀k t,o2 k=some t->X' k:=λk t l=>m.x1 k (u k (hR.owx k t l)) (hR.owx k t l) (q k (by rw[l];simp));refine hR.gen (S:=λk=>o1 k≠none) (X':=X') (ow':=o2) m.upd hS m.x2 hR.owM v (λk E _=>(x k E).2) s.app app args (hR.app.ak (l _ (by decide)) (TV _) λb c hb p=>⟨hb,by rw[d b 0 hb (ai p)];exact p⟩) s.out out (hR.out.ak λb c hb p=>⟨hb,by rw[d b 0 hb (ai p)];exact p⟩) s.frs rfl (λi fr hi=> ?_);obtain⟨g,I,H,O,op,xs,J,N⟩:=hR.frs i fr hi;exact⟨g,I,H,O,op,xs,J,N.ak (l _ (by decide)) (TV _) (TV _) (λb hb D=>⟨D,d b _ D hb⟩) y⟩
theorem ME.other{w:aa}{X:a9}{b:Nat}{st:Int}(h:ME B w X o2 M b st er de va o)(q:Gw X o1 w X' o1' w')(A:fq o1 o2)(h1:∀k t,o1 k=some t->X k)(u:mu w' B X'):ME B w' X' o2 M b st er de va o:=by
 obtain⟨out,p,y,l,m,hm,E⟩:=h;have x:∀k,o2 k≠none->o1 k=none:=λk d=>A.symm k d;have hS:∀k,o1 k≠none->X k:=λk d=>by
  cases e:o1 k with
  |none=>exact absurd e d
  |some t=>exact h1 k t e
 have g:∀k t,o2 k=some t->k<w.heap.size->w'.heap[k]? =w.heap[k]?:=λk t d D=>q.upd.block k D (λe=>e (x k (by rw[d];simp)));have r:∀k,X k->k<w.heap.size:=λk d=>by obtain⟨_,c,T,h1,_⟩:=m k d;exact ai h1
 have d7:B<=w.heap.size:=by have:=(m M (l M 0 hm)).1;have:=ai p;omega
 refine⟨out,by rw[g M 0 hm (ai p)];exact p,y.ak (λb c hb v=>⟨hb,by rw[g b 0 hb (ai v)];exact v⟩),λk t d=>q.x1 k (r k (l k t d)) (l k t d) (x k (by rw[d];simp)),u,hm,E.below (q.upd.below d7 (λk d=>(m k (hS k d)).1))⟩
theorem Fm{w:aa}{X:a9}{b:Nat}(h:MR B K w X ow M b C s)(x:LM w L M)(u:0<s.st.length):
  cl 28 #[Pt L] w (qF w 0 0 ((s.st.length-1:Nat):Int) ⟨#[]⟩):=by
 obtain⟨mo,mf,val,app,args,out,top,gf,p,hR⟩:=h;obtain⟨D,k1,k2,k3,E,F,k6,G,A,H,k10,k11⟩:=bq p;have c:=ai p;have d:=hR.st;cases hq:s.st with
 |nil=>rw[hq] at u;simp at u
 |cons e r=>
  rw[hq] at d;obtain⟨g,q,v,got,rfl,m,_⟩:=d;have k:=ai m;have l:=ae m 1;simp only[ph,fD,fy,km] at l;have y:(((e::r).length-1:Nat):Int)=(r.length:Int):=by simp
  rw[y];refine zJ w L M 0 0 r.length ⟨#[]⟩ x (ag λob=> ?_);exact IY _ M g r.length (by simp;omega) (by simp;omega) ((kn _ _ _ c).trans A) ((kn _ _ _ c).trans k6) ((kn _ _ _ k).trans l)
theorem uK{w:aa}{X:a9}{b:Nat}{st:Int}(d:(st==0)=false)(h:ME B w X ow M b st er de t o)(k:LM w L M):
  cl 28 #[Pt L] w (qF w st er de ⟨t.toArray⟩):=by
 obtain⟨out,g,_⟩:=h;obtain⟨p,k1,k2,k3,q,r,k6,u,l,m,k10,k11⟩:=bq g;have c:=ai g;refine zJ w L M st er de ⟨t.toArray⟩ k (ag λob=> ?_);exact IX _ M st er de ⟨t.toArray⟩ d (by simp;omega) ((kn _ _ _ c).trans l) ((kn _ _ _ c).trans m) ((kn _ _ _ c).trans k10) ((kn _ _ _ c).trans k11)
theorem ErrT.below{w:aa}(h:ErrT w)(hb:Below B w w')(hB:0<B):ErrT w':=(hb.cell (p:=(dq 0 0)) hB).trans h
def PH(B:Nat)(X:a9)(ow:Nat->Option Nat)(w:aa)(M b:Nat)(er:Int)(d:Nat)(o:List au)(w':aa):Prop:=∃X' ow',ME B w' X' ow' M b 2 er d [] o/\Gw X ow w X' ow' w'
theorem Nh{w:aa}{X:a9}{b:Nat}(h:MR B K w X ow M b C s)(G:ErrT w)(hB:0<B)(n fuel:Nat)(E:n<=100000)(m:Nat)(er:Int)(d:Nat)(o:List au)(N:kI C fuel s n 0=some (m,.err er d o)):
  cl 37 #[Pt M,Jn n] w (PR w m (PH B X ow w M b er d o)):=by
 have I:=DI Hy h n fuel E (m,.err er d o) N;refine Ng w M n m er d E _ (ag (I.mono ?_));rintro e w1 ⟨ev,rfl,⟨k,J,O⟩,X',ow',s',c,A,u,ho⟩;have D:=c;obtain⟨mo,mf,val,app,args,out,top,gf,v,l⟩:=c;have p:=l.st;obtain⟨Q,k1,k2,k3,R,S,k6,T,U,V,k10,k11⟩:=bq v;cases hq:s'.st with
 |nil=>rw[hq] at u;simp at u
 |cons P r=>
  rw[hq] at p u;obtain⟨g,q,F,got,rfl,y,_⟩:=p;have x:=ae y 1;simp only[ph,fD,fy,km] at x;have H:r.length=d:=by simpa using u
  refine⟨ev,k,_,g,rfl,J,O,G.below (h.bel A) hB,v,rfl,k6,by rw[<-H];exact x,ai y,λW hb=> ?_⟩;obtain⟨h1,h2⟩:=l.stops v hb 2 er d [];rw[ho] at h1;exact⟨X',ow',h1,A.trans h2⟩
mutual
def o6:E->Prop
 |.const _=>True
 |.nothing=>True
 |.var _=>True
 |.ite a b c=>o6 a/\o6 b/\o6 c
 |.define _ a=>o6 a
 |.set _ a=>o6 a
 |.lambda _ xs a=>xs.Nodup/\o6 a
 |.seq es=>2<=es.length/\fu es
 |.apply es=>1<=es.length/\fu es
def fu:List E->Prop
 |[]=>True
 |e::r=>o6 e/\fu r
end
theorem sR:∀(a b:List E),fu a->fu b->fu (a++b)
 |[],b,_,h=>h
 |e::r,b,h,k=>⟨h.1,sR r b h.2 k⟩
theorem lA(hf:∀d e,f d=some e->o6 e):∀(ds:List D) (b:List E),bF f ds=some b->fu b/\b.length=ds.length
 |[],b,h=>by cases h;exact⟨trivial,rfl⟩
 |d::r,b,h=>by
  simp only[bF] at h;split at h
  .rename_i e g
   split at h
   .rename_i es c
    cases h;have h2:=lA hf r es c;exact⟨⟨hf d e g,h2.1⟩,by simp[h2.2]⟩
   .cases h
  .cases h
theorem NC:∀(d:List E) (e:E),JZ d=some e->fu d->o6 e
 |[],e,h,_=>by cases h
 |[k],e,h,c=>by cases h;exact c.1
 |a::b::r,e,h,c=>by cases h;exact⟨by simp,c⟩
theorem Eg(hf:∀d e,f d=some e->o6 e)(ds:List D)(e:E)(h:eW f ds=some e):o6 e:=by
 unfold eW at h;cases hk:bF f ds with
 |none=>rw[hk] at h;cases h
 |some b=>
  rw[hk] at h;exact NC b e h (lA hf ds b hk).1
theorem pG:∀(seen:List au) (nd:List D),bn seen nd=true->seen.Nodup->(seen++nd.map bS).Nodup
 |seen,[],_,h=>by simpa using h
 |seen,d::r,h,g=>by
  simp only[bn,rr,Bool.not_eq_true'] at h;have:=pG (seen++[bS d]) r h.2 (by
   rw[To];refine⟨g,by simp,λa c b hb=> ?_⟩;simp at hb;subst hb;rintro rfl;have h2:=h.1.2;rw[RJ] at h2;exact absurd c (by simpa using h2))
  simpa using this
theorem xR(hf:∀d e,f d=some e->o6 e)(nd ds:List D)(e:E)(h:eH f nd ds=some e):o6 e:=by
 unfold eH at h;split at h
 .rename_i b
  cases hb:eW f ds with
  |none=>rw[hb] at h;cases h
  |some k=>
   rw[hb] at h;cases h;exact⟨by simpa using pG [] nd b (by simp),Eg hf ds k hb⟩
 .cases h
theorem KE(s:au)(e:E)(h:o6 e):o6 (G3 s e):=by cases e<;>exact h
theorem N0(b:∀s e,o6 e->o6 (mk s e))(hf:∀d e,f d=some e->o6 e):∀(ds:List D) (e:E),zV f mk ds=some e->o6 e
 |[x,a],e,h=>by
  simp only[zV] at h;split at h
  .cases hk:f a with
   |none=>rw[hk] at h;cases h
   |some k=>
    rw[hk] at h;cases h;exact b _ _ (hf a k hk)
  .cases h
 |[],e,h=>by cases h
 |[_],e,h=>by cases h
 |_::_::_::_,e,h=>by cases h
theorem Eh(n:Nat)(g:∀(d:D) (e:E),aN n d=some e->o6 e)(l:List D)(e:E)(h:aN (n+1) (.agg l)=some e):o6 e:=by
 simp only[aN] at h;split at h
 .match A:l.tail,h with
  |[q],h=>cases h;exact trivial
  |[],h=>cases h
  |_::_::_,h=>cases h
 split at h
 .cases hk:bF (aN n) l.tail with
  |none=>rw[hk] at h;cases h
  |some m=>
   rw[hk] at h;have h1:=(lA g l.tail m hk).1
   match m,h with
   |[a,b],h=>cases h;exact⟨h1.1,h1.2.1,trivial⟩
   |[a,b,c],h=>cases h;exact⟨h1.1,h1.2.1,h1.2.2.1⟩
   |[],h=>cases h
   |[_],h=>cases h
   |_::_::_::_::_,h=>cases h
 split at h
 .exact N0 (mk:=.set) (λ_ _ h=>h) g l.tail e h
 split at h
 .match v:l.tail,h with
  |q::ds,h=>
   simp only[wI] at h;split at h
   .exact xR g _ _ e h
   .cases h
  |[],h=>cases h
 split at h
 .exact Eg g l.tail e h
 split at h
 .match v:l.tail,h with
  |q::ds,h=>
   simp only[tu] at h;split at h
   .match y:aE q,h with
    |x::xs,h=>
     simp only[yH] at h;split at h
     .cases hp:eH (aN n) xs ds with
      |none=>rw[hp] at h;cases h
      |some k=>
       rw[hp] at h;cases h;exact KE _ _ (xR g _ _ k hp)
     .cases h
    |[],h=>cases h
   .exact N0 KE g (q::ds) e h
  |[],h=>cases h
 split at h
 .match v:l.tail,h with
  |q::ds,h=>
   simp only[rV] at h;split at h
   .split at h
    .rename_i p es hp w
     cases h;exact⟨by simp,xR g _ _ p hp,(lA g _ es w).1⟩
    .cases h
   .cases h
  |[],h=>cases h
 split at h
 .cases h
 .rename_i u
  cases hk:bF (aN n) l with
  |none=>rw[hk] at h;cases h
  |some m=>
   rw[hk] at h;cases h;have h1:=lA g l m hk;refine⟨?_,h1.1⟩;rw[h1.2];cases l with
   |nil=>exact absurd rfl u
   |cons a r=>simp
theorem sQ:∀(n:Nat) (d:D) (e:E),aN n d=some e->o6 e
 |0,d,e,h=>by cases h
 |n+1,.agg l,e,h=>Eh n (sQ n) l e h
 |n+1,.slice l _,e,h=>Eh n (sQ n) l e h
 |n+1,.lit (.string s),e,h=>by
  simp only[aN] at h;split at h
  .cases h
  .cases h;exact trivial
 |n+1,.lit (.int k m),e,h=>by cases h;exact trivial
 |n+1,.lit (.bool b),e,h=>by cases h;exact trivial
 |n+1,.lit (.float a b),e,h=>by cases h;exact trivial
 |n+1,.lit .nil,e,h=>by cases h;exact trivial
 |n+1,.nil,e,h=>by cases h;exact trivial
 |n+1,.ptr _,e,h=>by cases h;exact trivial
 |n+1,.iface _ _,e,h=>by cases h;exact trivial
 |n+1,.map _,e,h=>by cases h;exact trivial
 |n+1,.held _,e,h=>by cases h;exact trivial
structure mD(a b:BS):Prop where
 cs:∀(i:Nat) c,a.cs[i]? =some c->b.cs[i]? =some c
 ns:∀(i:Nat) c,a.ns[i]? =some c->b.ns[i]? =some c
 ls:∀(i:Nat) nm ns e,a.ls[i]? =some (nm,ns,e)->∃e',b.ls[i]? =some (nm,ns,e')
 bs:∀(i:Nat) c,a.bs[i]? =some c->b.bs[i]? =some c
theorem mD.refl(a:BS):mD a a:=⟨λ_ _ h=>h,λ_ _ h=>h,λ_ _ _ e h=>⟨e,h⟩,λ_ _ h=>h⟩
theorem mD.trans{b c:BS}(h:mD a b)(k:mD b c):mD a c:=⟨λi x q=>k.cs i x (h.cs i x q),λi x q=>k.ns i x (h.ns i x q),λi nm ns e q=>by
 obtain⟨e',d⟩:=h.ls i nm ns e q;exact k.ls i nm ns e' d,λi x q=>k.bs i x (h.bs i x q)⟩
theorem iw{l:List α}{c x:α}(h:l[i]? =some c):(l++[x])[i]? =some c:=by
 have hi:i<l.length:=by
  rcases sb i l.length with b|b
  .exact b
  .rw[CC b] at h;cases h
 rw[o5 hi];exact h
structure bj(a b:BS):Prop where
 len:a.is.length<=b.is.length
 is:∀i,i<a.is.length->b.is[i]? =a.is[i]?
 tb:mD a b
theorem bj.refl(a:BS):bj a a:=⟨ew _,λ_ _=>rfl,mD.refl a⟩
theorem bj.trans{b c:BS}(h:bj a b)(k:bj b c):bj a c:=⟨ku h.len k.len,λi hi=>(k.is i (gr hi h.len)).trans (h.is i hi),h.tb.trans k.tb⟩
theorem bj.emit(a:BS)(op n:Int):bj a (am a op n):=⟨by simp[am],λi hi=>by simp only[am];rw[o5 hi],⟨λ_ _ h=>h,λ_ _ h=>h,λ_ _ _ e h=>⟨e,h⟩,λ_ _ h=>h⟩⟩
def TZ:=@bj.emit
theorem bj.const(a:BS)(c:Option D):bj a (bM a c):=⟨ew _,λ_ _=>rfl,λ_ _ h=>iw h,λ_ _ h=>h,λ_ _ _ e h=>⟨e,h⟩,λ_ _ h=>h⟩
theorem bj.name(a:BS)(s:au):bj a (bh a s):=⟨ew _,λ_ _=>rfl,λ_ _ h=>h,λi c h=>by
 simp only[bh];split
 .exact h
 .exact iw h,λ_ _ _ e h=>⟨e,h⟩,λ_ _ h=>h⟩
theorem bj.fin(a:BS)(last:Bool):bj a (fW a last):=by
 unfold fW;split
 .exact TZ a 13 0
 .exact bj.refl a
theorem bj.names:∀(xs:List au) (a:BS),bj a (cZ a xs)
 |[],a=>bj.refl a
 |s::r,a=>(bj.name a s).trans (bj.names r _)
theorem bj.lam(a:BS)(nm:au)(xs:List au)(e:E):bj a (dF a nm xs e):=by
 have h:=bj.names xs a;obtain⟨h1,h2,h3,b,d⟩:=bW xs a;exact⟨h.len,h.is,h.tb.cs,h.tb.ns,λi nm ns e q=>⟨e,iw q⟩,λi c q=>iw q⟩
theorem bj.cS{b:BS}(h:bj a b)(i:Nat)(hi:a.is.length<=i):bj a (aF b i):=⟨by simp only[aF,s5];exact h.len,λj c=>by
 simp only[aF];rw[PV (by omega)];exact h.is j c,⟨h.tb.cs,h.tb.ns,h.tb.ls,h.tb.bs⟩⟩
mutual
theorem dw:∀(e:E) (last:Bool) (st:BS),bj st (aL e last st)
 |.const d,last,st=>((bj.const st _).trans (TZ _ _ _)).trans (bj.fin _ _)
 |.nothing,last,st=>((bj.const st _).trans (TZ _ _ _)).trans (bj.fin _ _)
 |.var s,last,st=>((bj.name st _).trans (TZ _ _ _)).trans (bj.fin _ _)
 |.lambda nm xs a,last,st=>((bj.lam st _ _ _).trans (TZ _ _ _)).trans (bj.fin _ _)
 |.define s a,last,st=>by
  have h:=((TZ st 4 0).trans (dw a false (am st 4 0))).cS st.is.length (ew _);exact((h.trans (bj.name _ _)).trans (TZ _ _ _)).trans (bj.fin _ _)
 |.set s a,last,st=>by
  have h:=((TZ st 4 0).trans (dw a false (am st 4 0))).cS st.is.length (ew _);exact((h.trans (bj.name _ _)).trans (TZ _ _ _)).trans (bj.fin _ _)
 |.ite a b c,last,st=>by
  have h:=((TZ st 4 0).trans (dw a false (am st 4 0))).cS st.is.length (ew _);have h2:=((TZ (aF (aL a false (am st 4 0)) st.is.length) 8 0).trans (dw b true _)).cS (aF (aL a false (am st 4 0)) st.is.length).is.length (ew _);exact(h.trans h2).trans (dw c true _)
 |.seq es,last,st=>xd es 4 last st
 |.apply es,last,st=>((qt es 4 st).trans (TZ _ _ _)).trans (TZ _ _ _)
theorem xd:∀(es:List E) (op:Int) (last:Bool) (st:BS),bj st (eS es op last st)
 |[],op,last,st=>bj.refl st
 |[e],op,last,st=>(TZ st 7 0).trans (dw e last _)
 |e::e2::r,op,last,st=>by
  have h:=((TZ st op 0).trans (dw e false (am st op 0))).cS st.is.length (ew _);exact h.trans (xd (e2::r) 6 last _)
theorem qt:∀(es:List E) (op:Int) (st:BS),bj st (fE es op st)
 |[],op,st=>bj.refl st
 |e::r,op,st=>by
  have h:=((TZ st op 0).trans (dw e false (am st op 0))).cS st.is.length (ew _);exact h.trans (qt r 5 _)
end
structure cD(st:BS):Prop where
 lb:st.ls.length=st.bs.length
 nd:st.ns.Nodup
theorem cD.emit(h:cD a)(op n:Int):cD (am a op n):=⟨h.lb,h.nd⟩
theorem cD.const(h:cD a)(c:Option D):cD (bM a c):=⟨h.lb,h.nd⟩
theorem cD.cS(h:cD a)(i:Nat):cD (aF a i):=⟨h.lb,h.nd⟩
theorem cD.name(h:cD a)(s:au):cD (bh a s):=by
 refine⟨h.lb,?_⟩;simp only[bh];split
 .exact h.nd
 .rename_i b
  rw[To];refine⟨h.nd,by simp,λx d y c=> ?_⟩;simp at c;subst c;rintro rfl;rw[RJ] at b;exact b (by simpa using d)
theorem cD.fin(h:cD a)(last:Bool):cD (fW a last):=by
 unfold fW;split
 .exact h.emit 13 0
 .exact h
theorem cD.names:∀(xs:List au) {a:BS},cD a->cD (cZ a xs)
 |[],a,h=>h
 |s::r,a,h=>cD.names r (h.name s)
theorem cD.lam(h:cD a)(nm:au)(xs:List au)(e:E):cD (dF a nm xs e):=by
 refine⟨?_,(cD.names xs h).nd⟩;have:=h.lb;simp[dF];omega
mutual
theorem dA:∀(e:E) (last:Bool) (st:BS),cD st->cD (aL e last st)
 |.const d,last,st,h=>((h.const _).emit _ _).fin _
 |.nothing,last,st,h=>((h.const _).emit _ _).fin _
 |.var s,last,st,h=>((h.name _).emit _ _).fin _
 |.lambda nm xs a,last,st,h=>((h.lam _ _ _).emit _ _).fin _
 |.define s a,last,st,h=>((((dA a false _ (h.emit 4 0)).cS _).name _).emit _ _).fin _
 |.set s a,last,st,h=>((((dA a false _ (h.emit 4 0)).cS _).name _).emit _ _).fin _
 |.ite a b c,last,st,h=>dA c true _ ((dA b true _ (((dA a false _ (h.emit 4 0)).cS _).emit 8 0)).cS _)
 |.seq es,last,st,h=>DL es 4 last st h
 |.apply es,last,st,h=>((DK es 4 st h).emit _ _).emit _ _
theorem DL:∀(es:List E) (op:Int) (last:Bool) (st:BS),cD st->cD (eS es op last st)
 |[],op,last,st,h=>h
 |[e],op,last,st,h=>dA e last _ (h.emit 7 0)
 |e::e2::r,op,last,st,h=>DL (e2::r) 6 last _ ((dA e false _ (h.emit op 0)).cS _)
theorem DK:∀(es:List E) (op:Int) (st:BS),cD st->cD (fE es op st)
 |[],op,st,h=>h
 |e::r,op,st,h=>DK r 5 _ ((dA e false _ (h.emit op 0)).cS _)
end
mutual
theorem gG:∀(e:E) (last:Bool) (st:BS),bG (aL e last st).bs+1<=bG st.bs+cJ e
 |.const d,last,st=>by
   have:(aL (.const d) last st).bs=st.bs:=by cases last<;>rfl
   rw[this];simp only[cJ];omega
 |.nothing,last,st=>by
   have:(aL .nothing last st).bs=st.bs:=by cases last<;>rfl
   rw[this];simp only[cJ];omega
 |.var s,last,st=>by
   have:(aL (.var s) last st).bs=st.bs:=by cases last<;>rfl
   rw[this];simp only[cJ];omega
 |.lambda nm xs a,last,st=>by
   have:(aL (.lambda nm xs a) last st).bs=st.bs++[a]:=by cases last<;>rfl
   rw[this,fl];simp only[cJ,bG];omega
 |.define s a,last,st=>by
  have:(aL (.define s a) last st).bs=(aL a false (am st 4 0)).bs:=by cases last<;>rfl
  have h:=gG a false (am st 4 0);have h2:(am st 4 0).bs=st.bs:=rfl;rw[this];simp only[cJ];rw[h2] at h;omega
 |.set s a,last,st=>by
  have:(aL (.set s a) last st).bs=(aL a false (am st 4 0)).bs:=by cases last<;>rfl
  have h:=gG a false (am st 4 0);have h2:(am st 4 0).bs=st.bs:=rfl;rw[this];simp only[cJ];rw[h2] at h;omega
 |.ite a b c,last,st=>by
  have h1:=gG a false (am st 4 0);have h2:=gG b true (am (aF (aL a false (am st 4 0)) st.is.length) 8 0);have h3:=gG c true (aF (aL b true (am (aF (aL a false (am st 4 0)) st.is.length) 8 0)) (aF (aL a false (am st 4 0)) st.is.length).is.length);have f:(am st 4 0).bs=st.bs:=rfl;have e2:(am (aF (aL a false (am st 4 0)) st.is.length) 8 0).bs=(aL a false (am st 4 0)).bs:=rfl;have e3:(aF (aL b true (am (aF (aL a false (am st 4 0)) st.is.length) 8 0)) (aF (aL a false (am st 4 0)) st.is.length).is.length).bs=(aL b true (am (aF (aL a false (am st 4 0)) st.is.length) 8 0)).bs:=rfl;rw[f] at h1;rw[e2] at h2;rw[e3] at h3;simp only[aL,cJ];omega
 |.seq es,last,st=>by
  have:=Dv es 4 last st;simp only[aL,cJ];omega
 |.apply es,last,st=>by
  have:=Du es 4 st;have f:(aL (.apply es) last st).bs=(fE es 4 st).bs:=rfl;rw[f];simp only[cJ];omega
theorem Dv:∀(es:List E) (op:Int) (last:Bool) (st:BS),bG (eS es op last st).bs<=bG st.bs+bG es
 |[],op,last,st=>by simp only[eS];omega
 |[e],op,last,st=>by
  have:=gG e last (am st 7 0);have f:(am st 7 0).bs=st.bs:=rfl;rw[f] at this;simp only[eS,bG];omega
 |e::e2::r,op,last,st=>by
  have h1:=gG e false (am st op 0);have h2:=Dv (e2::r) 6 last (aF (aL e false (am st op 0)) st.is.length);have f:(am st op 0).bs=st.bs:=rfl;have e2:(aF (aL e false (am st op 0)) st.is.length).bs=(aL e false (am st op 0)).bs:=rfl;rw[f] at h1;rw[e2] at h2;simp only[eS,bG] at *;omega
theorem Du:∀(es:List E) (op:Int) (st:BS),bG (fE es op st).bs<=bG st.bs+bG es
 |[],op,st=>by simp only[fE];omega
 |e::r,op,st=>by
  have h1:=gG e false (am st op 0);have h2:=Du r 5 (aF (aL e false (am st op 0)) st.is.length);have f:(am st op 0).bs=st.bs:=rfl;have e2:(aF (aL e false (am st op 0)) st.is.length).bs=(aL e false (am st op 0)).bs:=rfl;rw[f] at h1;rw[e2] at h2;simp only[fE,bG] at *;omega
end
structure ge(a:Nat)(t z:BS):Prop where
 is:∀i,a<=i->i<t.is.length->z.is[i]? =t.is[i]?
 tb:mD t z
theorem ge.pre{b:BS}(h:ge i0 b z)(p:bj a b):ge i0 a z:=⟨λi c hi=>(h.is i c (gr hi p.len)).trans (p.is i hi),p.tb.trans h.tb⟩
theorem ge.from(h:ge i0 a z)(c:i0<=j0):ge j0 a z:=⟨λi b hi=>h.is i (ku c b) hi,h.tb⟩
theorem ge.emit(h:ge i0 (am a op n) z)(hi:i0<=a.is.length):z.is[a.is.length]? =some (op,n):=by
 rw[h.is _ hi (by simp[am])];simp[am]
theorem ge.cS(h:ge i0 (aF a j) z)(hi:i0<=j)(c:j<a.is.length):z.is[j]? =some ((a.is.getD j (0,0)).1,(a.is.length:Int))/\ge (j+1) a z:=by
 refine⟨?_,λi d b=> ?_,⟨h.tb.cs,h.tb.ns,h.tb.ls,h.tb.bs⟩⟩
 .rw[h.is _ hi (by simp only[aF,s5];exact c)];simp only[aF];rw[QK c]
 .rw[h.is i (by omega) (by simp only[aF,s5];exact b)];simp only[aF];rw[PV (by omega)]
theorem lu(a:BS)(s:au):(bh a s).ns[gB a s]? =some s:=by
 unfold bh gB;simp only;by_cases h:a.ns.contains s=true
 .rw[fN h];rw[RJ] at h;have hm:s∈a.ns:=by simpa using h
  rw[fA (Sv hm),Tj]
 .rw[fb h];rw[RJ] at h;have hm:s∉a.ns:=by simpa using h
  rw[List.idxOf_eq_length hm];simp
def A5(z:BS)(p:Nat):Option Nat->Prop
 |none=>z.is[p]? =some (13,0)
 |some q=>p=q
theorem ge.fin{last:Bool}(h:ge i0 (fW a last) z)(hi:i0<=a.is.length):A5 z a.is.length (if last then none else some (fW a last).is.length):=by
 cases last with
 |true=>exact ge.emit (show ge i0 (am a 13 0) z from h) hi
 |false=>rfl
def jC(z:BS):List Nat->List au->Prop
 |[],[]=>True
 |n::ns,s::r=>z.ns[n]? =some s/\jC z ns r
 |_,_=>False
theorem uL:∀(xs:List au) (a z:BS),(∀(i:Nat) c,(cZ a xs).ns[i]? =some c->z.ns[i]? =some c)->jC z (gd a xs) xs
 |[],a,z,_=>trivial
 |s::r,a,z,h=>⟨h _ _ ((bj.names r (bh a s)).tb.ns _ _ (lu a s)),uL r (bh a s) z h⟩
theorem be(a:BS)(op n:Int):(am a op n).is.length=a.is.length+1:=by simp[am]
theorem bX(a:BS)(i:Nat):(aF a i).is.length=a.is.length:=by simp[aF]
mutual
def At (z:BS):E->Nat->Option Nat->Prop
 |.const d,p,J=>(∃n:Nat,z.is[p]? =some (1,(n:Int))/\z.cs[n]? =some (some d))/\A5 z (p+1) J
 |.nothing,p,J=>(∃n:Nat,z.is[p]? =some (1,(n:Int))/\z.cs[n]? =some none)/\A5 z (p+1) J
 |.var s,p,J=>(∃n:Nat,z.is[p]? =some (2,(n:Int))/\z.ns[n]? =some s)/\A5 z (p+1) J
 |.lambda nm xs a,p,J=>(∃(l:Nat) (ns:List Nat) (e:Nat),z.is[p]? =some (3,(l:Int))/\z.ls[l]? =some (nm,ns,e)/\jC z ns xs/\z.bs[l]? =some a)/\A5 z (p+1) J
 |.define s a,p,J=>∃r n:Nat,p<r/\z.is[p]? =some (4,(r:Int))/\At z a (p+1) (some r)/\z.is[r]? =some (9,(n:Int))/\z.ns[n]? =some s/\A5 z (r+1) J
 |.set s a,p,J=>∃r n:Nat,p<r/\z.is[p]? =some (4,(r:Int))/\At z a (p+1) (some r)/\z.is[r]? =some (10,(n:Int))/\z.ns[n]? =some s/\A5 z (r+1) J
 |.ite a b c,p,_=>∃r t:Nat,p<r/\z.is[p]? =some (4,(r:Int))/\At z a (p+1) (some r)/\z.is[r]? =some (8,(t:Int))/\At z b (r+1) none/\At z c t none
 |.seq es,p,J=>K3 z es 4 p J
 |.apply es,p,_=>KN z es 4 p
def K3 (z:BS):List E->Int->Nat->Option Nat->Prop
 |[],_,_,_=>False
 |[e],_,p,J=>z.is[p]? =some (7,0)/\At z e (p+1) J
 |e::r,op,p,J=>∃t:Nat,p<t/\z.is[p]? =some (op,(t:Int))/\At z e (p+1) (some t)/\K3 z r 6 t J
def KN (z:BS):List E->Int->Nat->Prop
 |[],_,p=>z.is[p]? =some (11,0)/\z.is[p+1]? =some (12,0)
 |e::r,op,p=>∃t:Nat,p<t/\z.is[p]? =some (op,(t:Int))/\At z e (p+1) (some t)/\KN z r 5 t
end
theorem j7{st:BS}{last:Bool}(hi:i0<=st.is.length)(h:ge i0 (aF (aL e last (am st op 0)) st.is.length) z):st.is.length<(aL e last (am st op 0)).is.length/\z.is[st.is.length]? =some (op,((aL e last (am st op 0)).is.length:Int))/\ge (st.is.length+1) (aL e last (am st op 0)) z:=by
 have hp:=dw e last (am st op 0);have b:=hp.len;rw[be] at b;have h1:=h.cS hi (by omega);refine⟨by omega,?_,h1.2⟩;rw[h1.1];have h2:=hp.is st.is.length (by rw[be];omega);rw[pk,h2];simp[am]
mutual
theorem i6:∀(e:E) (last:Bool) (st z:BS),cD st->o6 e->ge st.is.length (aL e last st) z->At z e st.is.length (if last then none else some (aL e last st).is.length)
 |.const d,last,st,z,f,_,h=>by
  have h1:=h.pre (bj.fin _ _);have h2:=h1.emit (a:=bM st (some d)) (ew _);refine⟨⟨st.cs.length,h2,(h1.pre (TZ _ _ _)).tb.cs _ _ (by simp[bM])⟩,?_⟩;have h3:=h.fin (by rw[be];simp only[bM];omega);rw[be] at h3;exact h3
 |.nothing,last,st,z,f,_,h=>by
  have h1:=h.pre (bj.fin _ _);have h2:=h1.emit (a:=bM st none) (ew _);refine⟨⟨st.cs.length,h2,(h1.pre (TZ _ _ _)).tb.cs _ _ (by simp[bM])⟩,?_⟩;have h3:=h.fin (by rw[be];simp only[bM];omega);rw[be] at h3;exact h3
 |.var s,last,st,z,f,_,h=>by
  have h1:=h.pre (bj.fin _ _);have h2:=h1.emit (a:=bh st s) (ew _);refine⟨⟨gB st s,h2,(h1.pre (TZ _ _ _)).tb.ns _ _ (lu st s)⟩,?_⟩;have h3:=h.fin (by rw[be];simp only[bh];omega);rw[be] at h3;exact h3
 |.lambda nm xs a,last,st,z,f,g,h=>by
  have A:=bW xs st;have u:(dF st nm xs a).is.length=st.is.length:=by simp[dF,A.1]
  have h1:=h.pre (bj.fin _ _);have h2:=h1.emit (a:=dF st nm xs a) (by omega);rw[u] at h2;have o:=(h1.pre (TZ _ _ _)).tb;have h3:=h.fin (by rw[be,u];omega);rw[be,u] at h3;refine⟨?_,h3⟩;obtain⟨e',p⟩:=o.ls st.ls.length nm (gd st xs) 0 (by simp[dF]);refine⟨st.bs.length,gd st xs,e',h2,by rw[<-f.lb];exact p,uL xs st z (λi c q=>o.ns i c q),o.bs _ _ (by simp[dF])⟩
 |.define s a,last,st,z,f,g,h=>by
  have h1:=h.pre (bj.fin _ _);have h2:=h1.pre (TZ _ _ _);have h3:=h2.pre (bj.name _ _);obtain⟨l,m,n⟩:=j7 (ew _) h3;have o:=h1.emit (by simp only[bh,bX];omega);have p:=h.fin (by rw[be];simp only[bh,bX];omega);rw[be] at p;simp only[bh,bX] at o p;have k:=i6 a false (am st 4 0) z (f.emit 4 0) g (by rw[be];exact n);rw[be] at k;exact⟨_,_,l,m,k,o,h2.tb.ns _ _ (lu _ s),p⟩
 |.set s a,last,st,z,f,g,h=>by
  have h1:=h.pre (bj.fin _ _);have h2:=h1.pre (TZ _ _ _);have h3:=h2.pre (bj.name _ _);obtain⟨l,m,n⟩:=j7 (ew _) h3;have o:=h1.emit (by simp only[bh,bX];omega);have p:=h.fin (by rw[be];simp only[bh,bX];omega);rw[be] at p;simp only[bh,bX] at o p;have k:=i6 a false (am st 4 0) z (f.emit 4 0) g (by rw[be];exact n);rw[be] at k;exact⟨_,_,l,m,k,o,h2.tb.ns _ _ (lu _ s),p⟩
 |.ite a b c,last,st,z,f,g,h=>by
  have j:ge st.is.length (aL c true (aF (aL b true (am (aF (aL a false (am st 4 0)) st.is.length) 8 0)) (aF (aL a false (am st 4 0)) st.is.length).is.length)) z:=h;have h1:=j.pre (dw c true _);have y:=((TZ st 4 0).trans (dw a false (am st 4 0))).len;obtain⟨b1,b2,w⟩:=j7 (st:=aF (aL a false (am st 4 0)) st.is.length) (by rw[bX];omega) h1;have h2:=h1.pre (((TZ (aF (aL a false (am st 4 0)) st.is.length) 8 0).trans (dw b true _)).cS _ (ew _));obtain⟨l,m,n⟩:=j7 (ew _) h2;rw[bX] at b1 b2 w;have k:=i6 a false (am st 4 0) z (f.emit 4 0) g.1 (by rw[be];exact n);rw[be] at k;have t:=i6 b true (am (aF (aL a false (am st 4 0)) st.is.length) 8 0) z (((dA a false _ (f.emit 4 0)).cS _).emit 8 0) g.2.1 (by rw[be,bX];exact w);rw[be,bX] at t;have x:=i6 c true _ z ((dA b true _ (((dA a false _ (f.emit 4 0)).cS _).emit 8 0)).cS _) g.2.2 (j.from (by rw[bX];omega));rw[bX] at x;exact⟨_,_,l,m,k,b2,t,x⟩
 |.seq es,last,st,z,f,g,h=>J0 es 4 last st z f (by intro e;rw[e] at g;exact absurd g.1 (by simp)) g.2 h
 |.apply es,last,st,z,f,g,h=>by
  have j:ge st.is.length (am (am (fE es 4 st) 11 0) 12 0) z:=h;have B:=(qt es 4 st).len;have h1:=j.pre (TZ _ _ _);have h2:=j.emit (by rw[be];omega);have h3:=h1.emit (by omega);rw[be] at h2;exact GY es 4 st z f g.2 (h1.pre (TZ _ _ _)) h3 h2
theorem J0:∀(es:List E) (op:Int) (last:Bool) (st z:BS),cD st->es≠[]->fu es->ge st.is.length (eS es op last st) z->K3 z es op st.is.length (if last then none else some (eS es op last st).is.length)
 |[],op,last,st,z,_,v,_,h=>absurd rfl v
 |[e],op,last,st,z,f,_,g,h=>by
  have j:ge st.is.length (aL e last (am st 7 0)) z:=h;have h1:=(j.pre (dw e last _)).emit (ew _);have h2:=i6 e last (am st 7 0) z (f.emit 7 0) g.1 (j.from (by rw[be];omega));rw[be] at h2;exact⟨h1,h2⟩
 |e::e2::r,op,last,st,z,f,_,g,h=>by
  have j:ge st.is.length (eS (e2::r) 6 last (aF (aL e false (am st op 0)) st.is.length)) z:=h;obtain⟨l,m,n⟩:=j7 (ew _) (j.pre (xd (e2::r) 6 last _));have k:=i6 e false (am st op 0) z (f.emit op 0) g.1 (by rw[be];exact n);rw[be] at k;have t:=J0 (e2::r) 6 last (aF (aL e false (am st op 0)) st.is.length) z ((dA e false _ (f.emit op 0)).cS _) (by simp) g.2 (j.from (by rw[bX];omega));rw[bX] at t;exact⟨_,l,m,k,t⟩
theorem GY:∀(es:List E) (op:Int) (st z:BS),cD st->fu es->ge st.is.length (fE es op st) z->z.is[(fE es op st).is.length]? =some (11,0)->z.is[(fE es op st).is.length+1]? =some (12,0)->KN z es op st.is.length
 |[],op,st,z,_,_,h,k1,k2=>⟨k1,k2⟩
 |e::r,op,st,z,f,g,h,k1,k2=>by
  have j:ge st.is.length (fE r 5 (aF (aL e false (am st op 0)) st.is.length)) z:=h;obtain⟨l,m,n⟩:=j7 (ew _) (j.pre (qt r 5 _));have k:=i6 e false (am st op 0) z (f.emit op 0) g.1 (by rw[be];exact n);rw[be] at k;have t:=GY r 5 (aF (aL e false (am st op 0)) st.is.length) z ((dA e false _ (f.emit op 0)).cS _) g.2 (j.from (by rw[bX];omega)) k1 k2;rw[bX] at t;exact⟨_,l,m,k,t⟩
end
def vC(z:BS):List E->Nat->Prop
 |[],p=>z.is[p]? =some (14,0)
 |e::r,p=>∃t:Nat,p<t/\z.is[p]? =some (0,(t:Int))/\At z e (p+1) none/\vC z r t
theorem Ju(e:E)(st:BS):bj st (gX e st):=((TZ st 0 0).trans (dw e true _)).cS _ (ew _)
theorem uS:∀(es:List E) (st:BS),bj st (ce es st)
 |[],st=>bj.refl st
 |e::r,st=>(Ju e st).trans (uS r _)
theorem zr(e:E)(st:BS)(h:cD st):cD (gX e st):=(dA e true _ (h.emit 0 0)).cS _
theorem uC:∀(es:List E) (st:BS),cD st->cD (ce es st)
 |[],st,h=>h
 |e::r,st,h=>uC r _ (zr e st h)
theorem yZ:∀(es:List E) (st z:BS),cD st->fu es->ge st.is.length (ce es st) z->z.is[(ce es st).is.length]? =some (14,0)->vC z es st.is.length
 |[],st,z,_,_,h,k=>k
 |e::r,st,z,l,m,h,k=>by
  have b:ge st.is.length (ce r (gX e st)) z:=h;obtain⟨p,q,u⟩:=j7 (ew _) (b.pre (uS r _));have c:=i6 e true (am st 0 0) z (l.emit 0 0) m.1 (by rw[be];exact u);rw[be] at c;have g:(gX e st).is.length=(aL e true (am st 0 0)).is.length:=bX _ _;have d:=yZ r (gX e st) z (zr e st l) m.2 (b.from (by rw[g];omega)) k;rw[g] at d;exact⟨_,p,q,c,d⟩
theorem ui:∀(es:List E) (st:BS),bG (ce es st).bs<=bG st.bs+bG es
 |[],st=>by simp only[ce];omega
 |e::r,st=>by
  have h1:=gG e true (am st 0 0);have h2:=ui r (gX e st);have b:(am st 0 0).bs=st.bs:=rfl;have e2:(gX e st).bs=(aL e true (am st 0 0)).bs:=rfl;rw[b] at h1;rw[e2] at h2;simp only[ce,bG] at *;omega
def Gu(z:BS):Prop:=∀(l:Nat) (nm:au) (ns:List Nat) (e:Nat) (a:E),z.ls[l]? =some (nm,ns,e)->z.bs[l]? =some a->At z a e none
theorem cD.entry(h:cD a)(i:Nat):cD (bv a i):=⟨by simp[bv,h.lb],h.nd⟩
theorem bj.entry(a:BS)(i:Nat):bj a (bv a i):=by
 refine⟨ew _,λ_ _=>rfl,λ_ _ h=>h,λ_ _ h=>h,λj nm ns e h=> ?_,λ_ _ h=>h⟩;simp only[bv];by_cases c:i=j
 .subst c;have d:i<a.ls.length:=by
   rcases sb i a.ls.length with b|b
   .exact b
   .rw[CC b] at h;cases h
  exact⟨a.is.length,by rw[QK d,pk,h];rfl⟩
 .exact⟨e,by rw[PV c];exact h⟩
theorem n9(a:BS)(last:Bool):(fW a last).ls=a.ls:=by cases last<;>rfl
mutual
theorem i5:∀(e:E) (last:Bool) (st:BS),∃x,(aL e last st).ls=st.ls++x
 |.const d,last,st=>⟨[],by simp only[aL,n9];simp[am,bM]⟩
 |.nothing,last,st=>⟨[],by simp only[aL,n9];simp[am,bM]⟩
 |.var s,last,st=>⟨[],by simp only[aL,n9];simp[am,bh]⟩
 |.lambda nm xs a,last,st=>⟨[(nm,gd st xs,0)],by simp only[aL,n9];simp[am,dF]⟩
 |.define s a,last,st=>by
  obtain⟨x,f⟩:=i5 a false (am st 4 0);exact⟨x,by simp only[aL,n9];simp only[am,bh,aF] at f ⊢;exact f⟩
 |.set s a,last,st=>by
  obtain⟨x,f⟩:=i5 a false (am st 4 0);exact⟨x,by simp only[aL,n9];simp only[am,bh,aF] at f ⊢;exact f⟩
 |.ite a b c,last,st=>by
  obtain⟨x,f⟩:=i5 a false (am st 4 0);obtain⟨y,g⟩:=i5 b true (am (aF (aL a false (am st 4 0)) st.is.length) 8 0);obtain⟨u,i⟩:=i5 c true (aF (aL b true (am (aF (aL a false (am st 4 0)) st.is.length) 8 0)) (aF (aL a false (am st 4 0)) st.is.length).is.length);have h:(am st 4 0).ls=st.ls:=rfl;have e2:(am (aF (aL a false (am st 4 0)) st.is.length) 8 0).ls=(aL a false (am st 4 0)).ls:=rfl;have e3:(aF (aL b true (am (aF (aL a false (am st 4 0)) st.is.length) 8 0)) (aF (aL a false (am st 4 0)) st.is.length).is.length).ls=(aL b true (am (aF (aL a false (am st 4 0)) st.is.length) 8 0)).ls:=rfl;rw[h] at f;rw[e2,f] at g;rw[e3,g] at i;exact⟨x++(y++u),by simp only[aL];rw[i];simp⟩
 |.seq es,last,st=>I2 es 4 last st
 |.apply es,last,st=>I1 es 4 st
theorem I2:∀(es:List E) (op:Int) (last:Bool) (st:BS),∃x,(eS es op last st).ls=st.ls++x
 |[],op,last,st=>⟨[],by simp[eS]⟩
 |[e],op,last,st=>i5 e last (am st 7 0)
 |e::e2::r,op,last,st=>by
  obtain⟨x,f⟩:=i5 e false (am st op 0);obtain⟨y,g⟩:=I2 (e2::r) 6 last (aF (aL e false (am st op 0)) st.is.length);have h:(am st op 0).ls=st.ls:=rfl;have e2:(aF (aL e false (am st op 0)) st.is.length).ls=(aL e false (am st op 0)).ls:=rfl;rw[h] at f;rw[e2,f] at g;exact⟨x++y,by simp only[eS];rw[g];simp⟩
theorem I1:∀(es:List E) (op:Int) (st:BS),∃x,(fE es op st).ls=st.ls++x
 |[],op,st=>⟨[],by simp[fE]⟩
 |e::r,op,st=>by
  obtain⟨x,f⟩:=i5 e false (am st op 0);obtain⟨y,g⟩:=I1 r 5 (aF (aL e false (am st op 0)) st.is.length);have h:(am st op 0).ls=st.ls:=rfl;have e2:(aF (aL e false (am st op 0)) st.is.length).ls=(aL e false (am st op 0)).ls:=rfl;rw[h] at f;rw[e2,f] at g;exact⟨x++y,by simp only[fE];rw[g];simp⟩
end
mutual
theorem gJ:∀(e:E) (last:Bool) (st:BS),o6 e->fu st.bs->fu (aL e last st).bs
 |.const d,last,st,_,h=>by
   have:(aL (.const d) last st).bs=st.bs:=by cases last<;>rfl
   rw[this];exact h
 |.nothing,last,st,_,h=>by
   have:(aL .nothing last st).bs=st.bs:=by cases last<;>rfl
   rw[this];exact h
 |.var s,last,st,_,h=>by
   have:(aL (.var s) last st).bs=st.bs:=by cases last<;>rfl
   rw[this];exact h
 |.lambda nm xs a,last,st,f,h=>by
   have:(aL (.lambda nm xs a) last st).bs=st.bs++[a]:=by cases last<;>rfl
   rw[this];exact sR _ _ h ⟨f.2,trivial⟩
 |.define s a,last,st,f,h=>by
  have:(aL (.define s a) last st).bs=(aL a false (am st 4 0)).bs:=by cases last<;>rfl
  rw[this];exact gJ a false (am st 4 0) f h
 |.set s a,last,st,f,h=>by
  have:(aL (.set s a) last st).bs=(aL a false (am st 4 0)).bs:=by cases last<;>rfl
  rw[this];exact gJ a false (am st 4 0) f h
 |.ite a b c,last,st,f,h=>gJ c true _ f.2.2 (gJ b true (am (aF (aL a false (am st 4 0)) st.is.length) 8 0) f.2.1 (gJ a false (am st 4 0) f.1 h))
 |.seq es,last,st,f,h=>Ej es 4 last st f.2 h
 |.apply es,last,st,f,h=>Ei es 4 st f.2 h
theorem Ej:∀(es:List E) (op:Int) (last:Bool) (st:BS),fu es->fu st.bs->fu (eS es op last st).bs
 |[],op,last,st,_,h=>h
 |[e],op,last,st,f,h=>gJ e last (am st 7 0) f.1 h
 |e::e2::r,op,last,st,f,h=>Ej (e2::r) 6 last (aF (aL e false (am st op 0)) st.is.length) f.2 (gJ e false (am st op 0) f.1 h)
theorem Ei:∀(es:List E) (op:Int) (st:BS),fu es->fu st.bs->fu (fE es op st).bs
 |[],op,st,_,h=>h
 |e::r,op,st,f,h=>Ei r 5 (aF (aL e false (am st op 0)) st.is.length) f.2 (gJ e false (am st op 0) f.1 h)
end
theorem vw:∀(es:List E) (st:BS),fu es->fu st.bs->fu (ce es st).bs
 |[],st,_,h=>h
 |e::r,st,b,h=>vw r (gX e st) b.2 (gJ e true (am st 0 0) b.1 h)
theorem Ek:∀(es:List E) (i:Nat) (e:E),fu es->es[i]? =some e->o6 e
 |[],i,e,_,h=>by simp at h
 |a::r,0,e,b,h=>by simp at h;subst h;exact b.1
 |a::r,i+1,e,b,h=>Ek r i e b.2 (by simpa using h)
theorem Eo:∀(es:List E) (i:Nat) (e:E),es[i]? =some e->bG (es.drop i)=cJ e+bG (es.drop (i+1))
 |[],i,e,h=>by simp at h
 |a::r,0,e,h=>by simp at h;subst h;simp[bG]
 |a::r,i+1,e,h=>by simpa using Eo r i e (by simpa using h)
theorem AU(es:List E)(i:Nat):bG es=bG (es.take i)+bG (es.drop i):=by rw[<-fl,List.take_append_drop]
theorem Bo:∀(n i:Nat) (st:BS),bj st (bY n i st)
 |0,i,st=>bj.refl st
 |n+1,i,st=>by
  unfold bY;cases h:st.bs[i]? with
  |none=>exact bj.refl st
  |some e=>exact((bj.entry st i).trans (dw e true _)).trans (Bo n (i+1) _)
theorem rP:∀(n i:Nat) (st:BS),cD st->cD (bY n i st)
 |0,i,st,h=>h
 |n+1,i,st,b=>by
  unfold bY;cases h:st.bs[i]? with
  |none=>exact b
  |some e=>exact rP n (i+1) _ (dA e true _ (b.entry i))
theorem uh:∀(n i:Nat) (st:BS) (j:Nat),j<i->j<st.ls.length->(bY n i st).ls[j]? =st.ls[j]?
 |0,i,st,j,_,_=>rfl
 |n+1,i,st,j,d,g=>by
  unfold bY;cases h:st.bs[i]? with
  |none=>rfl
  |some e=>
   obtain⟨x,b⟩:=i5 e true (bv st i);have c:(aL e true (bv st i)).ls[j]? =st.ls[j]?:=by
    rw[b,o5 (by simp[bv];omega)];simp only[bv];rw[PV (by omega)]
   rw[<-c];exact uh n (i+1) _ j (by omega) (by rw[b];simp[bv];omega)
theorem ug:∀(n i:Nat) (st z:BS),cD st->fu st.bs->bG (st.bs.drop i)<=n->z=bY (n+1) i st->∀(l:Nat) (nm:au) (ns:List Nat) (e:Nat) (a:E),i<=l->z.ls[l]? =some (nm,ns,e)->z.bs[l]? =some a->At z a e none
 |n,i,st,z,u,y,Q,c,l,nm,ns,e,a,P,h1,h2=>by
  unfold bY at c;cases hb:st.bs[i]? with
  |none=>
   rw[hb] at c;simp only at c;have:st.bs.length<=i:=by
    rcases sb i st.bs.length with d|d
    .rw[fA d] at hb;cases hb
    .exact d
   rw[c,CC (by omega)] at h2;cases h2
  |some b=>
   rw[hb] at c;simp only at c;have m:=Ek _ _ _ y hb;have p:i<st.bs.length:=by
    rcases sb i st.bs.length with d|d
    .exact d
    .rw[CC d] at hb;cases hb
   have N:=Eo _ _ _ hb;have hp:=qx b;have v:=dA b true _ (u.entry i);have g:bj (aL b true (bv st i)) z:=by rw[c];exact Bo _ _ _
   rcases sb i l with hlt|D
   ·
    cases n with
    |zero=>omega
    |succ n=>
     have F:=gG b true (bv st i);have w:(bv st i).bs=st.bs:=rfl;rw[w] at F;have H:=AU (aL b true (bv st i)).bs (i+1);have R:=AU st.bs (i+1);have G:=(dw b true (bv st i)).tb.bs;have I:(aL b true (bv st i)).bs.take (i+1)=st.bs.take (i+1):=by
      apply List.ext_getElem?;intro j;rw[Bk,Bk];split
      .rename_i O
       have k:j<st.bs.length:=by omega
       rw[fA k];exact G j _ (by rw[w];exact fA k)
      .rfl
     rw[I] at H;exact ug n (i+1) _ z v (gJ b true (bv st i) m y) (by omega) c l nm ns e a hlt h1 h2
   .have q:l=i:=by omega
    subst q;have h:z.bs[l]? =some b:=g.tb.bs _ _ ((dw b true (bv st l)).tb.bs _ _ hb);rw[h2] at h;cases h;have r:l<st.ls.length:=by rw[u.lb];exact p
    obtain⟨x,A⟩:=i5 a true (bv st l);have e3:z.ls[l]? =some (((st.ls.getD l ([],[],0)).1,(st.ls.getD l ([],[],0)).2.1,st.is.length)):=by
     rw[c,uh _ _ _ l (by omega) (by rw[A];simp[bv];omega),A,o5 (by simp[bv];omega)];simp only[bv];rw[QK r]
    rw[h1] at e3;cases e3;exact i6 a true (bv st l) z (u.entry l) m ⟨λi J hi=>g.is i hi,g.tb⟩
theorem LC(es:List E)(b:fu es)(h:bG es<=1000000):cD (dY es)/\vC (dY es) es 0/\Gu (dY es):=by
 have c:cD BS.new:=⟨rfl,by simp[BS.new]⟩;have v1:=uC es BS.new c;have hb:=ui es BS.new;have g:bG BS.new.bs=0:=rfl;have hp:bj (am (ce es BS.new) 14 0) (dY es):=Bo _ _ _;refine⟨rP _ _ _ (v1.emit 14 0),?_,?_⟩
 .refine yZ es BS.new (dY es) c b ⟨λi _ hi=>(((TZ _ 14 0).trans hp).is i hi),((TZ _ 14 0).trans hp).tb⟩ ?_;rw[hp.is _ (by simp[am])];simp[am]
 .intro l nm ns e a h1 h2;have d:bG (am (ce es BS.new) 14 0).bs<=1000000:=by
   show bG (ce es BS.new).bs<=_;omega
  exact ug 1048575 0 (am (ce es BS.new) 14 0) (dY es) (v1.emit 14 0) (vw es BS.new b trivial) (by rw[RQ];omega) rfl l nm ns e a (kc _) h1 h2
inductive X where
 |const (v:V)
 |var (s:au)
 |ite (a b c:X)
 |define (s:au) (a:X)
 |set (s:au) (a:X)
 |lambda (xs:List au) (a:X)
 |seq (es:List X)
 |apply (es:List X)
inductive XK where
 |test (f:Nat) (b c:X)
 |bind (f:Nat) (s:au)
 |change (f:Nat) (s:au)
 |rest (f:Nat) (es:List X)
 |args (f:Nat) (es:List X) (got:List V)
structure XF where
 ns:List au
 vs:List V
 out:Option Nat
inductive XP where
 |first(k:Nat)
 |clo (xs:List au) (a:X) (f:Nat)
 |kont (ch:List XK) (fs:List X)
inductive XM where
 |next
 |ev (x:X)
 |back (v:V)
 |app (p:V) (a:List V)
structure XS where
 md:XM
 fr:Nat
 ch:List XK
 fs:List X
 last:Option V
 out:List au
 frs:List XF
 obs:List (Option XP)
inductive XR where
 |ok (x:XS)
 |err (e:Int) (d:Nat) (o:List au)
 |done (t:au) (o:List au)
 |bad
def dE(l:List au)(s:au):Option Nat:=if l.contains s then some (l.idxOf s) else none
def eG(frs:List XF):Nat->Nat->au->Option (Nat×Nat)
 |0,_,_=>none
 |k+1,f,n=>match frs[f]? with
  |none=>none
  |some fr=>match dE fr.ns n with
   |some i=>some (f,i)
   |none=>match fr.out with
    |none=>none
    |some g=>eG frs k g n
def XF.put(fr:XF)(i:Nat)(v:V):XF:={fr with vs:=fr.vs.set i v}
def XF.define(fr:XF)(n:au)(v:V):XF:=match dE fr.ns n with
 |some i=>fr.put i v
 |none=>{fr with ns:=fr.ns++[n],vs:=fr.vs++[v]}
def fX(x:XS)(v:V):XR:=.ok {x with md:=.back v}
def jl(x:XS)(e:Int):XR:=.err e x.ch.length x.out
def iB(x:XS)(k:XK)(e:X):XR:=if x.ch.length=200 then jl x 9 else .ok {x with md:=.ev e,ch:=k::x.ch}
def Gq(x:XS):X->XR
 |.const v=>fX x v
 |.var s=>match eG x.frs (x.fr+1) x.fr s with
  |some (f,i)=>match x.frs[f]? with
   |some fr=>match fr.vs[i]? with
    |some v=>fX x v
    |none=>.bad
   |none=>.bad
  |none=>jl x 5
 |.ite a b c=>iB x (.test x.fr b c) a
 |.define s a=>iB x (.bind x.fr s) a
 |.set s a=>iB x (.change x.fr s) a
 |.lambda xs a=>.ok {x with md:=.back (.proc (2 *x.obs.length)),obs:=x.obs++[some (.clo xs a x.fr)]}
 |.seq (e::r)=>iB x (.rest x.fr r) e
 |.apply (e::r)=>iB x (.args x.fr r []) e
 |.seq []=>.bad
 |.apply []=>.bad
def ix(x:XS)(v:V):XK->XR
 |.test f b c=>.ok {x with md:=.ev (if cj v (.bool false) then c else b),fr:=f}
 |.bind f s=>match x.frs[f]? with
  |some fr=>.ok {x with md:=.back .nothing,frs:=x.frs.set f (fr.define s v)}
  |none=>.bad
 |.change f s=>match eG x.frs (f+1) f s with
  |some (g,i)=>match x.frs[g]? with
   |some fr=>.ok {x with md:=.back .nothing,frs:=x.frs.set g (fr.put i v)}
   |none=>.bad
  |none=>jl x 5
 |.rest f [e]=>.ok {x with md:=.ev e,fr:=f}
 |.rest f (e::e2::es)=>.ok {x with md:=.ev e,fr:=f,ch:=.rest f (e2::es)::x.ch}
 |.rest f []=>.bad
 |.args f [] got=>match (v::got).reverse with
  |p::a=>.ok {x with md:=.app p a}
  |[]=>.bad
 |.args f (e::es) got=>.ok {x with md:=.ev e,fr:=f,ch:=.args f es (v::got)::x.ch}
def rN(x:XS)(f:Int->Int->V):V->V->XR
 |.int a,.int b=>fX x (f a b)
 |_,_=>jl x 8
def fJ(x:XS):Nat->List V->XR
 |0,[a,b]=>rN x (λx y=>.int (AY (x+y))) a b
 |1,[a,b]=>rN x (λx y=>.int (AY (x-y))) a b
 |2,[a,b]=>rN x (λx y=>.int (AY (x *y))) a b
 |3,[a,b]=>rN x (λx y=>.bool (decide (x<y))) a b
 |4,[a,b]=>rN x (λx y=>.bool (x==y)) a b
 |5,[a,b]=>fX {x with obs:=x.obs++[none]} (.pair (2 *x.obs.length) a b)
 |6,[a]=>match a with
  |.pair _ p _=>fX x p
  |_=>jl x 8
 |7,[a]=>match a with
  |.pair _ _ q=>fX x q
  |_=>jl x 8
 |8,[a]=>fX x (.bool (cj a .empty))
 |9,[a]=>match a with
  |.pair _ _ _=>fX x (.bool true)
  |_=>fX x (.bool false)
 |10,[a]=>fX x (.bool (cj a (.bool false)))
 |11,[a,b]=>fX x (.bool (cj a b))
 |12,[a]=>if x.out.length=40 then jl x 10 else fX {x with out:=x.out++[(bK a).take 100]} .nothing
 |13,[a]=>.ok {x with md:=.app a [.proc (2 *x.obs.length)],obs:=x.obs++[some (.kont x.ch x.fs)]}
 |_,_=>.bad
def sq(x:XS)(id:Nat):Option XP:=if id%2=0 then(match x.obs[id/2]? with
 |some (some k)=>some k
 |_=>none) else none
def DD(x:XS)(a:List V):XP->XR
 |.first k=>if a.length=eD k then fJ x k a else jl x 7
 |.clo xs b f=>if a.length=xs.length then .ok {x with md:=.ev b,frs:=x.frs++[⟨xs,a,some f⟩],fr:=x.frs.length} else jl x 7
 |.kont ch fs=>match a with
  |[v]=>.ok {x with md:=.back v,ch:=ch,fs:=fs}
  |_=>jl x 7
def dN(x:XS)(p:V)(a:List V):XR:=match p with
 |.proc id=>match sq x id with
  |some k=>DD x a k
  |none=>.bad
 |_=>jl x 6
def dG(x:XS):XR:=match x.md with
 |.next=>match x.fs with
  |[]=>.done (match x.last with
   |some v=>(bK v).take 100
   |none=>[]) x.out
  |e::r=>.ok {x with md:=.ev e,fr:=0,ch:=[],fs:=r}
 |.ev e=>Gq x e
 |.back v=>match x.ch with
  |[]=>.ok {x with md:=.next,last:=some v}
  |k::r=>ix {x with ch:=r} v k
 |.app p a=>dN x p a
def XM.isApp:XM->Bool
 |.app _ _=>true
 |_=>false
def XM.cost(m:XM):Nat:=if m.isApp then 1 else 0
inductive jc where
 |run (x:XS)
 |err (e:Int) (d:Nat) (o:List au)
 |done (t:au) (o:List au)
def wC:Nat->XS->Nat->Nat->Option (Nat×jc)
 |0,_,_,_=>none
 |k+1,x,n,made=>
  if x.md.isApp=true/\made=n then some (made,.run x)
  else match dG x with
   |.ok a=>wC k a n (made+x.md.cost)
   |.err e d o=>some (made+x.md.cost,.err e d o)
   |.done t o=>some (made+x.md.cost,.done t o)
   |.bad=>none
def fR(fs:List X):XS:=
 {md:=.next,fr:=0,ch:=[],fs:=fs,last:=none,out:=[],frs:=[⟨aP,(List.range 14).map λk=>.proc (2 *k),none⟩],obs:=(List.range 14).map λk=>some (.first k)}
mutual
def xU:X->Nat
 |.const _=>2
 |.var _=>2
 |.ite a b c=>xU a+xU b+xU c+2
 |.define _ a=>xU a+2
 |.set _ a=>xU a+2
 |.lambda _ _=>2
 |.seq es=>ms es+2
 |.apply es=>ms es+2
def ms:List X->Nat
 |[]=>0
 |e::r=>xU e+1+ms r
end
def Df:XK->Nat
 |.test _ b c=>xU b+xU c+1
 |.bind _ _=>1
 |.change _ _=>1
 |.rest _ es=>ms es+1
 |.args _ es _=>ms es+1
def tU:List XK->Nat
 |[]=>0
 |k::r=>Df k+tU r
def pW(x:XS):Nat:=match x.md with
 |.next=>ms x.fs
 |.ev e=>xU e+tU x.ch+ms x.fs
 |.back _=>1+tU x.ch+ms x.fs
 |.app _ _=>0
theorem mZ{x b:XS}{k:XK}{e a:X}(hm:x.md=.ev a)(h:iB x k e=.ok b)(c:xU e+Df k<xU a):pW b<pW x:=by
 unfold iB jl at h;split at h
 .cases h
 .cases h;simp only[pW,hm,tU];omega
theorem Qm{x d:XS}(e:X)(hm:x.md=.ev e)(h:Gq x e=.ok d):pW d<pW x:=by
 cases e with
 |const v=>cases h;simp only[pW,hm,xU];omega
 |var s=>
  simp only[Gq] at h;split at h
  .split at h
   .split at h
    .cases h;simp only[pW,hm,xU];omega
    .cases h
   .cases h
  .cases h
 |ite a b c=>exact mZ hm h (by simp only[xU,Df];omega)
 |define s a=>exact mZ hm h (by simp only[xU,Df];omega)
 |set s a=>exact mZ hm h (by simp only[xU,Df];omega)
 |lambda xs a=>cases h;simp only[pW,hm,xU];omega
 |seq es=>
  cases es with
  |nil=>cases h
  |cons e r=>exact mZ hm h (by simp only[xU,ms,Df];omega)
 |apply es=>
  cases es with
  |nil=>cases h
  |cons e r=>exact mZ hm h (by simp only[xU,ms,Df];omega)
theorem Mt{x d:XS}{v:V}(k:XK)(h:ix x v k=.ok d):pW d<1+Df k+tU x.ch+ms x.fs:=by
 cases k with
 |test f b c=>
  cases h;simp only[pW,Df];split<;>omega
 |bind f s=>
  simp only[ix] at h;split at h
  .cases h;simp only[pW,Df];omega
  .cases h
 |change f s=>
  simp only[ix] at h;split at h
  .split at h
   .cases h;simp only[pW,Df];omega
   .cases h
  .cases h
 |rest f es=>
  match es,h with
  |[],h=>cases h
  |[e],h=>cases h;simp only[pW,Df,ms];omega
  |e::e2::es,h=>cases h;simp only[pW,Df,ms,tU];omega
 |args f es got=>
  match es,h with
  |[],h=>
   simp only[ix] at h;split at h
   .cases h;simp only[pW,Df];omega
   .cases h
  |e::es,h=>cases h;simp only[pW,Df,ms,tU];omega
theorem Mu{x b:XS}(hm:x.md.isApp=false)(h:dG x=.ok b):pW b<pW x:=by
 unfold dG at h;cases hd:x.md with
 |next=>
  rw[hd] at h;simp only at h;cases hf:x.fs with
  |nil=>rw[hf] at h;cases h
  |cons e r=>
   rw[hf] at h;cases h;simp only[pW,hd,hf,ms,tU];omega
 |ev e=>rw[hd] at h;exact Qm e hd h
 |back v=>
  rw[hd] at h;simp only at h;cases hc:x.ch with
  |nil=>rw[hc] at h;cases h;simp only[pW,hd,hc,tU];omega
  |cons k r=>
   rw[hc] at h;have:=Mt k h;simp only[pW,hd,hc,tU];simp only at this;unfold pW at this;omega
 |app p a=>rw[hd] at hm;cases hm
end Go.Proofs.YtlobegpjenabaaaGreatDoor
