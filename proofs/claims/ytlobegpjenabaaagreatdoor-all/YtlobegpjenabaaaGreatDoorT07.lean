import Derived.Test.YtlobegpjenabaaaGreatDoorT06
namespace Go.Proofs.YtlobegpjenabaaaGreatDoor
open Go.RowKit Tryz
set_option linter.unusedVariables false
set_option linter.defProp false
set_option maxRecDepth 100000
set_option maxHeartbeats 4000000
def pb:=@Option.some.inj
def rn:=@Nat.add_zero
def zd:=@decide_eq_false
def Sc:=@List.getD_cons_zero
def Sh:=@decide_eq_true
variable {f:D->Bool} {wr w2 w4 w':aa} {n g4 c4 g off cap:Nat} {k:List E} {m m':E->Prop} {m2:E} {ds:List D} {u x:al} {es vs:a7} {P:a9} {zs:List ao} {r:Bool} {e:bo}
def aW(w:aa)(Q:E->Prop)(r:Bool)(e:bo)(w':aa):Prop:=
 (∃u,e=.returned (.tuple #[u,.bool r])/\(r=true->∃k,Q k/\EV w' (λg=>w.heap.size<=g) k u))/\Below w.heap.size w w'
def qd(n:Nat):Prop:=∀(d:D) (v:al) (w:aa) (r:Bool),IV w n v d->Hid (r=aG n d)->cl 40 #[v] w (aW w (λk=>aN n d=some k) r)
def Gy(w:aa)(n:Nat)(ds:List D)(r:Bool)(e:bo)(w':aa):Prop:=
 (∃u,e=.returned (.tuple #[u,.bool r])/\(r=false->u=.slice none 0 0)/\(r=true->∃es k,bF (aN n) ds=some k/\es.length=ds.length/\w'.ownsRow w.heap.size 83 1 u es.length es/\ii w' (λg=>w.heap.size<=g/\¬u.ownBlock=some g) k es))/\Below w.heap.size w w'
theorem rK:(prog.info? 83).map (λi=>(i.zero,i.size,i.bytes))=some (some .nilIface,1,16):=by kernel_rfl
def vz(w:aa)(n:Nat)(ds:List D)(u:al)(wr:aa)(k:Nat):Prop:=
 (∃es m,bF (aN n) (ds.take k)=some m/\es.length=k/\wr.ownsRow w.heap.size 83 1 u es.length es/\ii wr (λg=>w.heap.size<=g/\¬u.ownBlock=some g) m es)/\Below w.heap.size w wr/\(∀j (a:j<ds.length),j<k->aG n ds[j]=true)
theorem K7(ds:List D)(k:Nat)(b:k<ds.length)(h:f ds[k]=false):ds.all f=false:=by
 rw[Tp];intro a;rw[RT] at a;have:=a ds[k] (Sj b);rw[h] at this;cases this
theorem GT(ds:List D)(h:∀j (a:j<ds.length),f ds[j]=true):ds.all f=true:=by
 rw[RT];intro d b;obtain⟨j,a,rfl⟩:=Tf b;exact h j a
theorem rl{w:aa}{k:Nat}{m:List E}(i:k<ds.length)(hm:bF (aN n) (ds.take k)=some m)(y:es.length=k)(D:wr.ownsRow w.heap.size 83 1 u es.length es)(I:ii wr (λg=>w.heap.size<=g/\¬u.ownBlock=some g) m es)(hb:Below w.heap.size w wr)(C:∀j (v:j<ds.length),j<k->aG n ds[j]=true)(a:Below wr.heap.size wr w2)(A:aN n ds[k]=some m2)(K:EV w2 (λg=>wr.heap.size<=g) m2 x)(s:aG n ds[k]=true)(b:aB (λk=>u.ownBlock=some k) w2 w4)(B:w4.ownsRow w.heap.size 83 1 (.slice (eb g4) (es.length+1) c4) (es.length+1) (es++[x]))(p:u.ownBlock=some g4\/w2.heap.size<=g4):
  vz w n ds (.slice (eb g4) (es.length+1) c4) w4 (k+1):=by
 have hlt:∀g,u.ownBlock=some g->g<wr.heap.size:=λg h=>(ar D h).2;have J:=a.size;refine⟨⟨es++[x],m++[m2],BK _ ds k i _ _ hm A,by simp[y],by rw[ga];exact B,?_⟩,?_,?_⟩
 .have kp2:aC 205 wr w2:=TX a;have kp4:aC 205 w2 w4:=T1 b λk c i h=>by
   rcases D.2 with⟨F,_⟩|⟨g,cap,L,F,d,H,r⟩
   .rw[F] at i;cases i
   .rw[F] at i;cases i;rw[a.block g (ai H),H] at h;cases h
  refine ii.append (I.imp (kp2.trans kp4) λg o d ho=> ?_) ?_
  .have q:=ai ho;refine⟨b.at (by rw[a.block g q];exact ho) d.2,d.1,λh=> ?_⟩;have h:g4=g:=pb h;subst h;rcases p with l|l
   .exact d.2 l
   .omega
  .have G:EV w4 (λg=>w.heap.size<=g/\¬(Value.slice (eb g4) (es.length+1) c4).ownBlock=some g) m2 x:=K.imp kp4 λg o d ho=>by
    have q:=ai ho;refine⟨b.at ho (λh=>by have:=hlt g h;omega),ku hb.size d,λh=> ?_⟩;have h:g4=g:=pb h;subst h;rcases p with l|l
    .have:=hlt g4 l;omega
    .omega
   exact ii.cons G ii.nil
 .have t:Below w.heap.size w w2:=hb.trans (a.mono hb.size);exact t.trans (b.below t.size (by intro j v;exact(ar D v).1))
 .intro j v z;rcases P5 (SZ z) with h|h
  .exact C j v h
  .subst h;exact s
theorem iJ(n:Nat)(M:qd n)(vs:a7)(ds:List D)(v:al)(w:aa)(o:bU w v vs)(H:cH w n vs ds)(h6:ds.length<=1000)(r:Bool)(U:Hid (r=ds.all (aG n))):
  cl 144 #[v] w (Gy w n ds r):=by
 obtain⟨a,cap,rfl,h9,h3,G⟩:=dx o H;have W:=ag G;have E:=ag M;clear G o H M;unfold maxLen at h3;obtain⟨i0,hi,O,Q,R⟩:=sv rK;have T:=ag (ei hi (ei O (ei Q R)));clear hi O Q R;go_enter func144,ntmps144;go_wp2
 go_loopw [4,11] (λu i wr=>∃k:Nat,k<=ds.length/\i=Jn k/\vz w n ds u wr k) (λ_ i _=>ds.length-(intOf i).toNat)
 case atStart=>exact⟨0,kc _,rfl,⟨[],[],rfl,rfl,oh _ _ _ _,.nil⟩,fL _ _,λj _ h=>absurd h (by omega)⟩
 case round=>
  obtain⟨k,hk,rfl,⟨es,m,hm,I,hr,he⟩,hb,y⟩:=hrel;have h8:=hb.size;have ha:es.length<=1000:=by omega
  have A:=ag I;clear I;have V:=ag hr;have HE:=ag he;have S:=ag hb;have F:=ag y;have HM:=ag hm;by_cases hlt:k<ds.length
  .obtain⟨g,off,rfl,hg,t,x,J,c0⟩:=W.out k hlt;have d0:wr.cell? (dq g (off+k))=some (.iface t x):=by rw[hb.cell (p:=(dq g (off+k))) hg];exact c0
   have C:=ag (IV.ak (TX hb) _ _ _ J);clear J hb c0 hr he y hm;cases hex:aG n ds[k] with
   |false=>
    have B:=ag (K7 ds k hlt hex);have c:=ag hex.symm;clear hex;go_wp2_with fail;refine(E.out ds[k] (.iface t x) _ false C.out c).mono ?_;rintro e w2 ⟨⟨x2,rfl,_⟩,b⟩;have q:=ag b;clear b;go_wp2;go_ret2;exact⟨⟨_,eI (by rw[U.out,B.out]),λ_=>rfl,λh=>by rw[U.out,B.out] at h;cases h⟩,S.out.trans (q.out.mono S.out.size)⟩
   |true=>
    have c:=ag hex.symm;clear hex;go_wp2_with fail;refine(E.out ds[k] (.iface t x) _ true C.out c).mono ?_;rintro e w2 ⟨⟨x2,rfl,N⟩,b⟩;obtain⟨m2,K,s⟩:=N rfl;obtain⟨t1,x1,rfl⟩:=s.form;have h5:=b.size;have q:=ag b;have X:=ag s;have Z:=ag K;have h1:=ag (aq V.out (TW (λ_=>False) b) (λ_ _ h=>h));clear b s N K;go_wp2_with (at_builtin;refine nl _ rfl (.tmp 22) (.tmp 24) 79 rfl w.heap.size 83 i0 .nilIface 1 16 underlying79 T.out.1 T.out.2.1 T.out.2.2.1 T.out.2.2.2 rfl (by decide) _ es.length es rfl (h1.out.alloc _) (dq w2.heap.size 0) 1 1 [.iface t1 x1] rfl rfl (RW _ _ _) (by intro u hu;simp at hu;subst hu;rfl) (by decide) (by unfold maxLen;omega) (by omega) (by simp;omega) (w2.heap.size+1) (by simp) ?_);intro g4 c4 w4 L l d h7;have h2:=ag (bC l);have h0:=ag L;have Y:=ag (show u4.ownBlock=some g4\/w2.heap.size<=g4 from d.imp id (λh=>by omega));clear L l d;go_wp2;go_roundw
    case rel=>exact⟨k+1,by omega,rfl,rl hlt HM.out A.out V.out HE.out S.out F.out q.out Z.out X.out c.out.symm h2.out h0.out Y.out⟩
    case measure=>simp[intOf];omega
  .have h4:k=ds.length:=by omega
   subst h4;clear hb hr he y hm;have z:=ag (GT (f:=aG n) ds (λj hj=>F.out j hj hj));go_wp2;go_ret2;exact⟨⟨_,eI (by rw[U.out,z.out]),(λh=>by rw[U.out,z.out] at h;cases h),λ_=>⟨es,m,by have:=HM.out;rwa [xp] at this,A.out,V.out,HE.out⟩⟩,S.out⟩
theorem D8{w:aa}(h:w'.ownsRow w.heap.size 83 1 u es.length es):mC w' (λg=>w.heap.size<=g) u es:=⟨ba h (kc _),λg a=>(ar h a).1⟩
theorem wo{w:aa}(h:ii w' (λg=>w.heap.size<=g/\¬u.ownBlock=some g) k es):ii w' (λg=>w.heap.size<=g) k es:=h.imp (TY _) λg o a ho=>⟨ho,a.1⟩
theorem qK(n:Nat)(i:qd n)(vs:a7)(ds:List D)(v:al)(w:aa)(c:bU w v vs)(d:cH w n vs ds)(b:ds.length<=1000)(j:0<ds.length)(r:Bool)(l:Hid (r=ds.all (aG n))):
  cl 96 #[v] w (aW w (λe=>(bF (aN n) ds).map .apply=some e) r):=by
 have s:=ag (iJ n i vs ds v w c d b r l);clear i c d l;go_enter func96,ntmps96;go_wp2_with fail;refine s.out.mono ?_;rintro e w2 ⟨⟨u,rfl,t,h1⟩,hb⟩;have q:=ag hb;clear hb s;cases r with
 |false=>
  clear t h1;go_wp2;go_ret2;exact⟨⟨_,rfl,λh=>by cases h⟩,q.out⟩
 |true=>
  obtain⟨es,k,z,A,p,y⟩:=h1 rfl;have o:=ag z;clear z;have l:=ag (EV.apply (D8 p) (by omega) (wo y));obtain⟨a,cap,rfl,_,_,_⟩:=ay p;clear t h1 p y A j b;go_wp2;go_ret2;exact⟨⟨_,rfl,λ_=>⟨.apply k,by rw[o.out];rfl,l.out⟩⟩,q.out⟩
theorem LU{w:aa}(h:ii w P k es)(c:es.length=1):∃x d,es=[x]/\k=[d]/\EV w P d x:=by
 cases h with
 |nil=>cases c
 |cons a b=>
  rename_i n m e r
  have:r=[]:=ze.1 (by simpa using c);subst this;cases b;exact⟨e,_,rfl,rfl,a⟩
theorem pD(n:Nat)(l:qd n)(vs:a7)(ds:List D)(v:al)(w:aa)(c:bU w v vs)(j:cH w n vs ds)(b:ds.length<=1000)(r:Bool)(B:Hid (r=(decide (0<ds.length)&&ds.all (aG n)))):
  cl 94 #[v] w (aW w (λe=>eW (aN n) ds=some e) r):=by
 cases hall:ds.all (aG n) with
 |false=>
  have s:=ag (iJ n l vs ds v w c j b false hall.symm);have A:r=false:=by rw[B.out,hall,RB]
  subst A;clear l c j B hall;go_enter func94,ntmps94;go_wp2_with fail;refine s.out.mono ?_;rintro e w2 ⟨⟨u,rfl,F,h1⟩,hb⟩;have q:=ag hb;clear hb s F h1;go_wp2;go_ret2;exact⟨⟨_,rfl,λh=>by cases h⟩,q.out⟩
 |true=>
  have s:=ag (iJ n l vs ds v w c j b true hall.symm);have o:r=decide (0<ds.length):=by rw[B.out,hall,TC]
  clear l c j B hall;go_enter func94,ntmps94;go_wp2_with fail;refine s.out.mono ?_;rintro e w2 ⟨⟨u,rfl,F,h1⟩,hb⟩;obtain⟨es,k,M,I,d,p⟩:=h1 rfl;have z:=ag M;have C:=ag p.length;clear M;have q:=ag hb;obtain⟨a,cap,rfl,G,H,i⟩:=ay d;unfold maxLen at H;clear hb s F h1;by_cases K:es.length=0
  .have A:r=false:=by rw[o];exact zd (by omega)
   subst A;clear o;have b1:((es.length:Int)==0)=true:=by rw[xb];omega
   clear d p i I K b;go_wp2;go_ret2;exact⟨⟨_,rfl,λh=>by cases h⟩,q.out⟩
  .have A:r=true:=by rw[o];exact Sh (by omega)
   subst A;clear o;have b1:((es.length:Int)==0)=false:=by rw[j2];omega
   by_cases ho:es.length=1
   .have b2:((es.length:Int)==1)=true:=by rw[xb];omega
    rw[ho] at G;rw[ho];obtain⟨x,Q,rfl,rfl,J⟩:=LU (wo p) ho;obtain⟨t,y,rfl⟩:=J.form;obtain⟨g,rfl,_,R,L⟩:=i (by simp);have c0:=L 0 _ rfl;have O:=ag J;clear d p i J L b1 b2 I K ho b;go_wp2;go_ret2;exact⟨⟨_,rfl,λ_=>⟨Q,by unfold eW;rw[z.out];rfl,O.out⟩⟩,q.out⟩
   .have b2:((es.length:Int)==1)=false:=by rw[j2];omega
    have N:=ag (EV.seq (D8 d) (by omega) (wo p));have E:=ag (show JZ k=some (.seq k) from by
     have:=C.out
     match k with
     |[]=>simp at this;omega
     |[_]=>simp at this;omega
     |_::_::_=>rfl)
    clear d p i I K ho b;go_wp2;go_ret2;exact⟨⟨_,rfl,λ_=>⟨.seq k,by unfold eW;rw[z.out];exact E.out,N.out⟩⟩,q.out⟩
theorem Jw(n:Nat)(vs:a7)(ds:List D)(v:al)(w:aa)(c:bU w v vs)(l:cH w n vs ds)(o:ds.length<=1000)(r:Bool)(p:Hid (r=decide (ds.length=1))):
  cl 89 #[v] w (aW w (λe=>Jv ds=some e) r):=by
 obtain⟨a,cap,rfl,s,y,j⟩:=dx c l;have i:=ag j;unfold maxLen at y;clear j c l;by_cases h1:ds.length=1
 .have z:r=true:=by rw[p.out];exact Sh h1
  subst z;obtain⟨g,off,rfl,C,t,x,b,c0⟩:=i.out 0 (by omega);rw[rn] at c0;rw[h1] at s;rw[h1];have B:=ag (show∃q,Jv ds=some (.const q)/\IV w n (.iface t x) q from by
   match ds,h1,b with
   |[d],_,b=>exact⟨d,rfl,b⟩)
  clear i p b h1 o;go_enter func89,ntmps89;go_wp2;go_ret2;exact⟨⟨_,rfl,λ_=>B.out.elim λq A=>⟨_,A.1,.const n _ _ _ A.2⟩⟩,fL _ _⟩
 .have z:r=false:=by rw[p.out];exact zd h1
  subst z;have b1:((ds.length:Int) !=1)=true:=by simp;omega
  clear i p h1;go_enter func89,ntmps89;go_wp2;go_ret2;exact⟨⟨_,rfl,λh=>by cases h⟩,fL _ _⟩
theorem xj(s:ao)(w:aa)(r:Bool)(a:Hid (r= !(l7 s.data.toList))):
  cl 55 #[.string s] w (aW w (λe=>e=.var s.data.toList) r):=by
 go_enter func55,ntmps55;go_wp2_with fail;refine(lT s _).mono ?_;rintro e w2 ⟨⟨t,rfl,b⟩,rfl⟩;have d:=ag b;clear b;have c:=ag (show r=true->l7 s.data.toList=false from λh=>by have:=a.out;rw[h] at this;simpa using this.symm);rw[<-a.out];clear a;cases r with
 |false=>
  go_wp2;go_ret2;exact⟨⟨_,rfl,λh=>by cases h⟩,fL _ _⟩
 |true=>
  go_wp2;go_ret2;exact⟨⟨_,rfl,λ_=>⟨.var t.data.toList,by rw[d.out (c.out (by first|exact trivial|rfl))],.var t⟩⟩,fL _ _⟩
theorem M7{w:aa}(h:ye w.heap.size w' u zs):yc w' (λg=>w.heap.size<=g) u zs:=⟨ba h (kc _),λg a=>(ar h a).1⟩
theorem jW(n m:Nat)(A:qd n)(ns vs:a7)(nd ds:List D)(u v:al)(w:aa)(C:bU w u ns)(z:cH w m ns nd)(M:nd.length<=1000)(b:bU w v vs)(s:cH w n vs ds)(y:ds.length<=1000)(r:Bool)(d:Hid (r=(bn [] nd&&(decide (0<ds.length)&&ds.all (aG n))))):
  cl 148 #[u,v] w (aW w (λe=>eH (aN n) nd ds=some e) r):=by
 have J:=ag (tE m ns nd u w C z M (bn [] nd) rfl);have Q:=ag (λ(w2:aa) (hb:Below w.heap.size w w2)=>pD n A vs ds v w2 (b.below hb) (cH.ak (TX hb) _ _ _ s) y (decide (0<ds.length)&&ds.all (aG n)) rfl);clear C z b s A
 generalize (decide (0<ds.length)&&ds.all (aG n))=r2 at *
 obtain⟨r1,j⟩:∃r1,r1=bn [] nd:=⟨_,rfl⟩;have K:=ag j.symm;rw[<-j] at J d;clear j;obtain⟨V,U⟩:∃x,x=v:=⟨_,rfl⟩;go_enter func148,ntmps148;go_wp2_with fail;refine J.out.mono ?_;rintro e w2 ⟨⟨u2,rfl,F⟩,hb⟩;have p:=ag F;have I:=ag hb;clear F hb J;go_wp2_with fail;refine(Q.out _ I.out).mono ?_;rintro e w3 ⟨⟨u3,rfl,G⟩,hb⟩;have q:=ag G;have l:=ag hb;clear G hb Q;have c:=ag (I.out.trans (l.out.mono I.out.size));cases r1 with
 |false=>
  have B:r=false:=by rw[d.out];rfl
  subst B;clear d;go_wp2;go_ret2;exact⟨⟨_,rfl,λh=>by cases h⟩,c.out⟩
 |true=>
  cases r2 with
  |false=>
   have B:r=false:=by rw[d.out];rfl
   subst B;clear d;go_wp2;go_ret2;exact⟨⟨_,rfl,λh=>by cases h⟩,c.out⟩
  |true=>
   have B:r=true:=by rw[d.out];rfl
   subst B;clear d;obtain⟨zs,O,H⟩:=p.out rfl;obtain⟨k,T,i⟩:=q.out rfl;obtain⟨t,x,rfl⟩:=i.form;have N:=I.out.size;have R:=ag (EV.lambda ⟨#[]⟩ (yc.imp (w':=w3) (P':=λg=>w.heap.size<=g) (λg o L ho=>⟨by rw[l.out.block g (ai ho)];exact ho,L⟩) (M7 O)) (i.imp (P':=λg=>w.heap.size<=g) (TY _) λg o L ho=>⟨ho,ku N L⟩));obtain⟨a,cap,rfl,_,_,_⟩:=ay O;clear p q i O;have S:=ag (show eH (aN n) nd ds=some (.lambda [] (TI zs) k) from by
    unfold eH;rw[K.out,fN rfl,T];show some (E.lambda [] (nd.map bS) k)=_;rw[<-H];rfl)
   clear H;go_wp2;go_ret2;exact⟨⟨_,rfl,λ_=>⟨_,S.out,R.out⟩⟩,c.out⟩
def A6(w:aa)(Q:au->E->Prop)(r:Bool)(e:bo)(w':aa):Prop:=
 (∃s u,e=.returned (.tuple #[.string s,u,.bool r])/\(r=true->∃k,Q s.data.toList k/\EV w' (λg=>w.heap.size<=g) k u))/\Below w.heap.size w w'
theorem C7(h:ds.length=2):∃a b,ds=[a,b]:=by
 match ds,h with
 |[a,b],_=>exact⟨a,b,rfl⟩
theorem O2(n:Nat)(s:qd n)(vs:a7)(b o:D)(v:al)(w:aa)(i:bU w v vs)(q:cH w n vs [b,o])(r:Bool)(z:Hid (r=(cI b&&aG n o))):
  cl 146 #[v] w (A6 w (λnm k=>cI b=true/\nm=bS b/\aN n o=some k) r):=by
 obtain⟨a,cap,rfl,R,F,p⟩:=dx i q;obtain⟨g,off,rfl,W,L,x1,c,c0⟩:=p 0 (by simp);obtain⟨V,off',S,T,M,x2,d,c1⟩:=p 1 (by simp);cases S;rw[rn] at c0;have C:=ag (show IV w n (.iface L x1) b from c);have E:=ag (show IV w n (.iface M x2) o from d);have B:=ag s;clear p i q s c d;unfold maxLen at F;rw[show([b,o]:List D).length=2 from rfl] at *
 generalize K:aG n o=I at *
 have Q:=ag K.symm
 generalize y:cI b=N at *
 have l:=ag y;clear K y;go_enter func146,ntmps146;go_wp2_with fail;refine(iZ n b (.iface L x1) _ C.out).mono ?_;rintro e w2 ⟨⟨U,rfl,t⟩,rfl⟩;have j:=ag (show N=true->U.data.toList=bS b from λh=>t (by rw[l.out];exact h));clear t;rw[l.out];go_wp2_with fail;refine(B.out o (.iface M x2) _ I E.out Q).mono ?_;rintro e w3 ⟨⟨u,rfl,J⟩,hb⟩;have H:=ag hb;have O:=ag J;clear J hb;cases N with
 |false=>
  have G:r=false:=by rw[z.out];rfl
  subst G;clear z;go_wp2
  go_ret3
  exact⟨⟨_,_,rfl,λh=>by cases h⟩,H.out⟩
 |true=>
  have G:r=I:=by rw[z.out];rfl
  subst G;clear z;go_wp2
  go_ret3
  exact⟨⟨_,_,rfl,λh=>(O.out h).elim λk A=>⟨k,by first|exact⟨l.out,j.out (by first|exact trivial|rfl),A.1⟩|exact⟨j.out (by first|exact trivial|rfl),A.1⟩|exact⟨rfl,j.out (by first|exact trivial|rfl),A.1⟩,A.2⟩⟩,H.out⟩
theorem O1(n:Nat)(vs:a7)(ds:List D)(v:al)(w:aa)(b:bU w v vs)(c:cH w n vs ds)(j:ds.length<=1000)(h2:¬ds.length=2):
  cl 146 #[v] w (A6 w (λ_ _=>False) false):=by
 obtain⟨a,cap,rfl,l,i,d⟩:=dx b c;unfold maxLen at i;have b1:((ds.length:Int) !=2)=true:=by simp;omega
 clear d b c h2;go_enter func146,ntmps146;go_wp2
 go_ret3
 exact⟨⟨_,_,rfl,λh=>by cases h⟩,fL _ _⟩
theorem NW(n:Nat)(l:qd n)(vs:a7)(ds:List D)(v:al)(w:aa)(a:bU w v vs)(b:cH w n vs ds)(c:ds.length<=1000)(r:Bool)(o:Hid (r=(decide (ds.length=2)&&cI (ds.getD 0 (ju []))&&(ds.drop 1).all (aG n)))):
  cl 146 #[v] w (A6 w (λnm k=>∀mk,zV (aN n) mk ds=some (mk nm k)) r):=by
 by_cases h2:ds.length=2
 .obtain⟨q,t,rfl⟩:=C7 h2;refine(O2 n l vs q t v w a b r (by show _=_;rw[o.out];simp)).mono ?_;rintro e w' ⟨⟨s,u,d,p⟩,hb⟩;refine⟨⟨s,u,d,λh=> ?_⟩,hb⟩;obtain⟨k,j,i⟩:=p h;refine⟨k,λmk=> ?_,i⟩;rw[j.2.1];simp only[zV];rw[fN j.1,j.2.2];rfl
 .have y:r=false:=by rw[o.out];simp[h2]
  subst y;refine(O1 n vs ds v w a b c h2).mono ?_;rintro e w' ⟨⟨s,u,d,p⟩,hb⟩;exact⟨⟨s,u,d,λh=>by cases h⟩,hb⟩
theorem Pe(n:Nat)(i:qd n)(vs:a7)(ds:List D)(v:al)(w:aa)(b:bU w v vs)(d:cH w n vs ds)(a:ds.length<=1000)(r:Bool)(q:Hid (r=(decide (ds.length=2)&&cI (ds.getD 0 (ju []))&&(ds.drop 1).all (aG n)))):
  cl 92 #[v] w (aW w (λe=>zV (aN n) .set ds=some e) r):=by
 have p:=ag (NW n i vs ds v w b d a r q);clear i b d q a;go_enter func92,ntmps92;go_wp2_with fail;refine p.out.mono ?_;rintro e w2 ⟨⟨s,u,rfl,l⟩,hb⟩;have o:=ag hb;clear p hb;cases r with
 |false=>
  clear l;go_wp2;go_ret2;exact⟨⟨_,rfl,λh=>by cases h⟩,o.out⟩
 |true=>
  obtain⟨k,y,c⟩:=l rfl;obtain⟨t,x,rfl⟩:=c.form;have z:=ag c;have j:=ag y;clear l c y;go_wp2;go_ret2;exact⟨⟨_,rfl,λ_=>⟨_,j.out _,.set _ z.out⟩⟩,o.out⟩
theorem bU.tail{w:aa}(h:bU w (.slice (some (dq g off)) (n+1) cap) (x::vs))(o:vs.length=n):bU w (.slice (some (dq g (off+1))) n (cap-1)) vs:=by
 obtain⟨a,c,p,h1,h2,h3⟩:=h;cases p;simp only[j1] at h1;refine⟨_,_,by rw[o],by omega,by omega,λhp=> ?_⟩;obtain⟨q,off',b,i,d⟩:=h3 (by simp);cases b;exact⟨g,off+1,rfl,i,λj u l=>by rw[RU,Nat.add_comm 1 j];exact d (j+1) u l⟩
theorem bU.none(w:aa)(a:a8):bU w (.slice a 0 0) []:=⟨a,0,rfl,ew _,kc _,λh=>absurd h (by simp)⟩
theorem aW.mono{w:aa}(h:aW w m r e w')(hm:∀k,m k->m' k):aW w m' r e w':=by
 obtain⟨⟨u,b,i⟩,hb⟩:=h;refine⟨⟨u,b,λd=> ?_⟩,hb⟩;obtain⟨k,c,a⟩:=i d;exact⟨k,hm k c,a⟩
theorem aW.since{w:aa}(h:aW w2 m r e w')(hb:Below w.heap.size w w2):aW w m r e w':=by
 obtain⟨⟨u,c,l⟩,a⟩:=h;refine⟨⟨u,c,λj=> ?_⟩,hb.trans (a.mono hb.size)⟩;obtain⟨k,i,b⟩:=l j;exact⟨k,i,b.imp (TY _) λg o d ho=>⟨ho,ku hb.size d⟩⟩
theorem uF(n:Nat)(G:qd (n+1))(x:al)(vs:a7)(d:D)(ds:List D)(v:al)(w:aa)(i:bU w v (x::vs))(c:cH w (n+1) (x::vs) (d::ds))(E:(d::ds).length<=1000)(r:Bool)(J:Hid (r=(aX d&&(bn [] (aE d)&&(decide (0<ds.length)&&ds.all (aG (n+1))))))):
  cl 93 #[v] w (aW w (λe=>eH (aN (n+1)) (aE d) ds=some e) r):=by
 have F:=c.2.length;have hid:=c.1.len;have o:=ag c;have y:=ag i;obtain⟨a,cap,rfl,L,M,B⟩:=dx i c;obtain⟨g,off,rfl,Y,S,x1,j,c0⟩:=B 0 (by simp);rw[rn] at c0;have A:=ag (show IV w (n+1) (.iface S x1) d from j);clear B i c j;unfold maxLen at M;simp only[j1] at *;have K:=ag G;have p:=ag F;clear G;have X:(((ds.length:Int)+1)==0)=false:=by rw[j2];omega
 go_enter func93,ntmps93;go_wp2_with fail;refine(gt n d (.iface S x1) _ A.out).mono ?_;rintro e w2 ⟨u,W,rfl,H,I,hb⟩;have t:=ag H;have z:=ag I;have l:=ag hb;clear H I hb;cases hil:aX d with
 |false=>
  have V:r=false:=by rw[J.out,hil];rfl
  subst V;clear J hil;go_wp2;go_ret2;exact⟨⟨_,rfl,λh=>by cases h⟩,l.out⟩
 |true=>
  have s:=ag (show r=(bn [] (aE d)&&(decide (0<ds.length)&&ds.all (aG (n+1)))) from by rw[J.out,hil];rfl);clear J hil;have Q:=ag (λ(tl:al) (N:bU w2 tl vs)=>jW (n+1) n K.out W vs (aE d) ds u tl w2 (bT.q t.out) z.out hid N (cH.ak (TX l.out) _ _ _ o.out.2) (by omega) r s);have T:=ag (y.out.below l.out);clear t z hid o A y s F c0;by_cases C:cap=1
  .have R:vs=[]:=ze.1 (by have:=p.out;omega);have O:ds.length=0:=by omega
   have U:=ag R;rw[O];clear R E L;subst C;go_wp2_with fail;refine(Q.out _ (by rw[U.out];exact bU.none _ _)).mono ?_;intro e w3 h3;have b:=ag (h3.since l.out);obtain⟨⟨u3,rfl,_⟩,_⟩:=h3;go_wp2;go_ret2;exact b.out
  .go_wp2_with fail;refine(Q.out _ (bU.tail T.out p.out)).mono ?_;intro e w3 h3;have b:=ag (h3.since l.out);obtain⟨⟨u3,rfl,_⟩,_⟩:=h3;go_wp2;go_ret2;exact b.out
theorem Ca(a:a8)(cap:Nat)(w:aa):cl 93 #[.slice a 0 cap] w (aW w (λ_=>False) false):=by
 go_enter func93,ntmps93;go_wp2;go_ret2;exact⟨⟨_,rfl,λh=>by cases h⟩,fL _ _⟩
theorem BE(a:a8)(cap:Nat)(w:aa):cl 91 #[.slice a 0 cap] w (aW w (λ_=>False) false):=by
 go_enter func91,ntmps91;go_wp2;go_ret2;exact⟨⟨_,rfl,λh=>by cases h⟩,fL _ _⟩
theorem Mp(a:a8)(cap:Nat)(w:aa):cl 95 #[.slice a 0 cap] w (aW w (λ_=>False) false):=by
 go_enter func95,ntmps95;go_wp2;go_ret2;exact⟨⟨_,rfl,λh=>by cases h⟩,fL _ _⟩
theorem B9(n:Nat)(j:qd n)(vs:a7)(ds:List D)(v:al)(w:aa)(c:bU w v vs)(b:cH w n vs ds)(i:ds.length<=1000)(r:Bool)(p:Hid (r=(decide (2<=ds.length)&&aX (ds.getD 0 (num 0))&&bn [] (aE (ds.getD 0 (num 0)))&&(ds.drop 1).all (aG n)))):
  cl 93 #[v] w (aW w (λe=>wI (aN n) ds=some e) r):=by
 match vs,ds,b with
 |[],[],_=>
  obtain⟨a,cap,rfl,_⟩:=c;have l:r=false:=by rw[p.out];rfl
  subst l;exact(Ca a cap w).mono λe w' h=>h.mono (λ_ o=>o.elim)
 |x::vs,d::ds,b=>
  cases n with
  |zero=>exact b.1.elim
  |succ n=>
   have l:r=(aX d&&(bn [] (aE d)&&(decide (0<ds.length)&&ds.all (aG (n+1))))):=by
    rw[p.out];have:decide (2<=(d::ds).length)=decide (0<ds.length):=by simp;omega
    rw[this];simp only[Sc,yd,RQ];cases decide (0<ds.length)<;>simp[Sx]
   by_cases hi:aX d=true
   .exact(uF n j x vs d ds v w c b i r l).mono λe w' h=>h.mono (λk o=>by rw[wI,fN hi];exact o)
   .have hf:r=false:=by rw[l];simp[hi]
    subst hf;refine(uF n j x vs d ds v w c b i false l).mono λe w' h=> ?_;obtain⟨⟨u,q,s⟩,hb⟩:=h;exact⟨⟨u,q,λh=>by cases h⟩,hb⟩
theorem G5(a b c:al)(w:aa):(Instr.typeAssert (.iface 277 (.agg #[a,b,c])) 83 277 true).run prog w=.ok (.tuple #[.agg #[a,b,c],.bool true]) w:=by kernel_rfl
def KS(w:aa)(P:a9)(m:E)(e:bo)(w':aa):Prop:=
 (∃v,e=.returned v/\EV w' P m v)/\Below w.heap.size w w'
theorem vN(v:al)(w:aa):(Instr.typeAssert (.iface 133 v) 83 277 true).run prog w=.ok (.tuple #[.agg #[.string ⟨#[]⟩,.slice none 0 0,.nilIface],.bool false]) w:=by kernel_rfl
theorem kG(s:ao)(x:al)(w:aa):
  cl 147 #[.string s,.iface 133 x] w λe w'=>e=.returned (.iface 279 (.agg #[.string s,.iface 133 x]))/\Below w.heap.size w w':=by
 have b:=vN;have a:=ag (λo=>(fL w.heap.size w).alloc (ew _) o);go_enter func147,ntmps147;go_wp2;go_ret;exact⟨rfl,by first|exact a.out _|exact((a.out _).setCell _ _ (ew _))⟩
theorem Bi(v:al)(w:aa):(Instr.typeAssert (.iface 202 v) 83 277 true).run prog w=.ok (.tuple #[.agg #[.string ⟨#[]⟩,.slice none 0 0,.nilIface],.bool false]) w:=by kernel_rfl
theorem v9(s:ao)(x:al)(w:aa):
  cl 147 #[.string s,.iface 202 x] w λe w'=>e=.returned (.iface 279 (.agg #[.string s,.iface 202 x]))/\Below w.heap.size w w':=by
 have b:=Bi;have a:=ag (λo=>(fL w.heap.size w).alloc (ew _) o);go_enter func147,ntmps147;go_wp2;go_ret;exact⟨rfl,by first|exact a.out _|exact((a.out _).setCell _ _ (ew _))⟩
theorem t9(v:al)(w:aa):(Instr.typeAssert (.iface 261 v) 83 277 true).run prog w=.ok (.tuple #[.agg #[.string ⟨#[]⟩,.slice none 0 0,.nilIface],.bool false]) w:=by kernel_rfl
theorem yD(s:ao)(x:al)(w:aa):
  cl 147 #[.string s,.iface 261 x] w λe w'=>e=.returned (.iface 279 (.agg #[.string s,.iface 261 x]))/\Below w.heap.size w w':=by
 have b:=t9;have a:=ag (λo=>(fL w.heap.size w).alloc (ew _) o);go_enter func147,ntmps147;go_wp2;go_ret;exact⟨rfl,by first|exact a.out _|exact((a.out _).setCell _ _ (ew _))⟩
theorem lI(v:al)(w:aa):(Instr.typeAssert (.iface 279 v) 83 277 true).run prog w=.ok (.tuple #[.agg #[.string ⟨#[]⟩,.slice none 0 0,.nilIface],.bool false]) w:=by kernel_rfl
theorem pN(s:ao)(x:al)(w:aa):
  cl 147 #[.string s,.iface 279 x] w λe w'=>e=.returned (.iface 279 (.agg #[.string s,.iface 279 x]))/\Below w.heap.size w w':=by
 have b:=lI;have a:=ag (λo=>(fL w.heap.size w).alloc (ew _) o);go_enter func147,ntmps147;go_wp2;go_ret;exact⟨rfl,by first|exact a.out _|exact((a.out _).setCell _ _ (ew _))⟩
theorem qO(v:al)(w:aa):(Instr.typeAssert (.iface 267 v) 83 277 true).run prog w=.ok (.tuple #[.agg #[.string ⟨#[]⟩,.slice none 0 0,.nilIface],.bool false]) w:=by kernel_rfl
theorem v8(s:ao)(x:al)(w:aa):
  cl 147 #[.string s,.iface 267 x] w λe w'=>e=.returned (.iface 279 (.agg #[.string s,.iface 267 x]))/\Below w.heap.size w w':=by
 have b:=qO;have a:=ag (λo=>(fL w.heap.size w).alloc (ew _) o);go_enter func147,ntmps147;go_wp2;go_ret;exact⟨rfl,by first|exact a.out _|exact((a.out _).setCell _ _ (ew _))⟩
theorem qN(v:al)(w:aa):(Instr.typeAssert (.iface 269 v) 83 277 true).run prog w=.ok (.tuple #[.agg #[.string ⟨#[]⟩,.slice none 0 0,.nilIface],.bool false]) w:=by kernel_rfl
theorem vZ(s:ao)(x:al)(w:aa):
  cl 147 #[.string s,.iface 269 x] w λe w'=>e=.returned (.iface 279 (.agg #[.string s,.iface 269 x]))/\Below w.heap.size w w':=by
 have b:=qN;have a:=ag (λo=>(fL w.heap.size w).alloc (ew _) o);go_enter func147,ntmps147;go_wp2;go_ret;exact⟨rfl,by first|exact a.out _|exact((a.out _).setCell _ _ (ew _))⟩
theorem mI(v:al)(w:aa):(Instr.typeAssert (.iface 273 v) 83 277 true).run prog w=.ok (.tuple #[.agg #[.string ⟨#[]⟩,.slice none 0 0,.nilIface],.bool false]) w:=by kernel_rfl
theorem rh(s:ao)(x:al)(w:aa):
  cl 147 #[.string s,.iface 273 x] w λe w'=>e=.returned (.iface 279 (.agg #[.string s,.iface 273 x]))/\Below w.heap.size w w':=by
 have b:=mI;have a:=ag (λo=>(fL w.heap.size w).alloc (ew _) o);go_enter func147,ntmps147;go_wp2;go_ret;exact⟨rfl,by first|exact a.out _|exact((a.out _).setCell _ _ (ew _))⟩
theorem we(s nm:ao)(a:a8)(n cap:Nat)(t:bi)(x:al)(w:aa):
  cl 147 #[.string s,.iface 277 (.agg #[.string nm,.slice a n cap,.iface t x])] w λe w'=>e=.returned (.iface 279 (.agg #[.string s,.iface 277 (.agg #[.string s,.slice a n cap,.iface t x])]))/\Below w.heap.size w w':=by
 have c:=G5;have b:=ag (λo=>(fL w.heap.size w).alloc (ew _) o);go_enter func147,ntmps147;go_wp2;go_ret;exact⟨rfl,by first|exact b.out _|exact((b.out _).setCell _ _ (ew _))|exact(((b.out _).setCell _ _ (ew _)).setCell _ _ (ew _))⟩
theorem jJ{w:aa}{k:E}{v:al}(s:ao)(h:EV w P k v):cl 147 #[.string s,v] w (KS w P (G3 s.data.toList k)):=by
 have kp:∀w',Below w.heap.size w w'->EV w' P k v:=λw' hb=>h.kept hb λg j _=>j;cases h with
 |nothing=>exact(kG s _ w).mono λe w' ⟨i,hb⟩=>⟨⟨_,i,.define s (kp w' hb)⟩,hb⟩
 |const n t x d q=>exact(kG s _ w).mono λe w' ⟨i,hb⟩=>⟨⟨_,i,.define s (kp w' hb)⟩,hb⟩
 |var z=>exact(v9 s _ w).mono λe w' ⟨i,hb⟩=>⟨⟨_,i,.define s (kp w' hb)⟩,hb⟩
 |ite a b c=>exact(yD s _ w).mono λe w' ⟨i,hb⟩=>⟨⟨_,i,.define s (kp w' hb)⟩,hb⟩
 |define z a=>exact(pN s _ w).mono λe w' ⟨i,hb⟩=>⟨⟨_,i,.define s (kp w' hb)⟩,hb⟩
 |set z a=>exact(v8 s _ w).mono λe w' ⟨i,hb⟩=>⟨⟨_,i,.define s (kp w' hb)⟩,hb⟩
 |seq r h2 a=>exact(vZ s _ w).mono λe w' ⟨i,hb⟩=>⟨⟨_,i,.define s (kp w' hb)⟩,hb⟩
 |apply r h2 a=>exact(rh s _ w).mono λe w' ⟨i,hb⟩=>⟨⟨_,i,.define s (kp w' hb)⟩,hb⟩
 |lambda nm l a=>
  obtain⟨t,x,rfl⟩:=a.form;obtain⟨p,cap,rfl,_⟩:=ay l.1;refine(we s nm _ _ _ _ _ w).mono λe w' ⟨i,hb⟩=>⟨⟨_,i,.define s ?_⟩,hb⟩;exact .lambda s (l.imp λg o j ho=>⟨by rw[hb.block g (ai ho)];exact ho,j⟩) (a.kept hb λg j _=>j)
theorem rg(n m:Nat)(W:qd n)(x:al)(X vs:a7)(d:D)(z ds:List D)(u v:al)(w:aa)(F:bU w u (x::X))(y:cH w m (x::X) (d::z))(U:(d::z).length<=1000)(B:bU w v vs)(R:cH w n vs ds)(T:ds.length<=1000)(r:Bool)(HR:Hid (r=(cI d&&(bn [] z&&(decide (0<ds.length)&&ds.all (aG n)))))):
  cl 145 #[u,v] w (aW w (λe=>(eH (aN n) z ds).map (G3 (bS d))=some e) r):=by
 have V:=y.2.length;have h0:=ag F;have HP:=ag (λ(tl:al) (r2:Bool) (h4:bU w tl X) (h3:Hid (r2=_))=>jW n m W X vs z ds tl v w h4 y.2 (by simp at U;omega) B R T r2 h3);obtain⟨a,cap,rfl,h1,h2,O⟩:=dx F y;obtain⟨g,off,rfl,hg,t1,x1,A,c0⟩:=O 0 (by simp);rw[rn] at c0;have N:=ag (show IV w m (.iface t1 x1) d from A);clear O B R A F y W;unfold maxLen at h2;simp only[j1] at *;have K:=ag V;clear V;have b0:(((z.length:Int)+1)==0)=false:=by rw[j2];omega
 obtain⟨I,G⟩:∃I,I=(bn [] z&&(decide (0<ds.length)&&ds.all (aG n))):=⟨_,rfl⟩;have t:=ag G;have b:=ag (show r=(cI d&&I) from by rw[HR.out,G]);clear G HR;go_enter func145,ntmps145;go_wp2_with fail;refine(iZ m d (.iface t1 x1) _ N.out).mono ?_;rintro e w2 ⟨⟨tt,rfl,Y⟩,rfl⟩;have L:=ag (show cI d=true->tt.data.toList=bS d from λh=>Y h);clear Y N c0;obtain⟨vd,H⟩:∃vd,vd=cI d:=⟨_,rfl⟩;rw[<-H];have i:=ag H;clear H;by_cases Q:cap=1
 .have hz:X=[]:=ze.1 (by have:=K.out;omega);have HZ:=ag hz;have Z:z.length=0:=by omega
  rw[Z];clear hz U h1 Z;subst Q;go_wp2_with fail;refine(HP.out _ I (by rw[HZ.out];exact bU.none _ _) t).mono ?_;rintro e w3 ⟨⟨u3,rfl,p⟩,l⟩;have s:=ag l;have M:=ag p;clear l p HP t;cases vd with
  |false=>
   have E:r=false:=by rw[b.out,<-i.out];rfl
   subst E;clear b;go_wp2;go_ret2;exact⟨⟨_,rfl,λh=>by cases h⟩,s.out⟩
  |true=>
   have E:r=I:=by rw[b.out,<-i.out];rfl
   subst E;clear b;cases r with
   |false=>
    go_wp2;go_ret2;exact⟨⟨_,rfl,λh=>by cases h⟩,s.out⟩
   |true=>
    obtain⟨k,S,c⟩:=M.out rfl;have J:=ag (jJ tt c);have HK:=ag S;obtain⟨t3,x3,rfl⟩:=c.form;clear M c S;go_wp2_with fail;refine J.out.mono ?_;rintro e w4 ⟨⟨v4,rfl,q⟩,o⟩;have j:=ag q;have C:=ag (s.out.trans (o.mono s.out.size));clear q o J;obtain⟨t4,x4,rfl⟩:=j.out.form;go_wp2;go_ret2;exact⟨⟨_,rfl,λ_=>⟨_,by rw[HK.out,<-L.out i.out.symm];rfl,j.out⟩⟩,C.out⟩
 .go_wp2_with fail;refine(HP.out _ I (bU.tail h0.out K.out) t).mono ?_;rintro e w3 ⟨⟨u3,rfl,p⟩,l⟩;have s:=ag l;have M:=ag p;clear l p HP t;cases vd with
  |false=>
   have E:r=false:=by rw[b.out,<-i.out];rfl
   subst E;clear b;go_wp2;go_ret2;exact⟨⟨_,rfl,λh=>by cases h⟩,s.out⟩
  |true=>
   have E:r=I:=by rw[b.out,<-i.out];rfl
   subst E;clear b;cases r with
   |false=>
    go_wp2;go_ret2;exact⟨⟨_,rfl,λh=>by cases h⟩,s.out⟩
   |true=>
    obtain⟨k,S,c⟩:=M.out rfl;have J:=ag (jJ tt c);have HK:=ag S;obtain⟨t3,x3,rfl⟩:=c.form;clear M c S;go_wp2_with fail;refine J.out.mono ?_;rintro e w4 ⟨⟨v4,rfl,q⟩,o⟩;have j:=ag q;have C:=ag (s.out.trans (o.mono s.out.size));clear q o J;obtain⟨t4,x4,rfl⟩:=j.out.form;go_wp2;go_ret2;exact⟨⟨_,rfl,λ_=>⟨_,by rw[HK.out,<-L.out i.out.symm];rfl,j.out⟩⟩,C.out⟩
theorem yC(a:a8)(cap:Nat)(v:al)(w:aa):cl 145 #[.slice a 0 cap,v] w (aW w (λ_=>False) false):=by
 go_enter func145,ntmps145;go_wp2;go_ret2;exact⟨⟨_,rfl,λh=>by cases h⟩,fL _ _⟩
theorem yB(n m:Nat)(s:qd n)(o vs:a7)(b ds:List D)(u v:al)(w:aa)(l:bU w u o)(c:cH w m o b)(q:b.length<=1000)(j:bU w v vs)(p:cH w n vs ds)(i:ds.length<=1000)(r:Bool)(z:Hid (r=(decide (0<b.length)&&(cI (b.getD 0 (num 0))&&(bn [] b.tail&&(decide (0<ds.length)&&ds.all (aG n))))))):
  cl 145 #[u,v] w (aW w (λe=>yH (aN n) b ds=some e) r):=by
 match o,b,c with
 |[],[],_=>
  obtain⟨a,cap,rfl,_⟩:=l;have t:r=false:=by rw[z.out];rfl
  subst t;exact(yC a cap v w).mono λe w' h=>h.mono (λ_ y=>y.elim)
 |x::o,d::b,c=>
  have t:r=(cI d&&(bn [] b&&(decide (0<ds.length)&&ds.all (aG n)))):=by rw[z.out];simp
  by_cases A:cI d=true
  .exact(rg n m s x o vs d b ds u v w l c q j p i r t).mono λe w' h=>h.mono (λk y=>by rw[yH,fN A];exact y)
  .have hf:r=false:=by rw[t];simp[A]
   subst hf;refine(rg n m s x o vs d b ds u v w l c q j p i false t).mono λe w' h=> ?_;obtain⟨⟨u,B,C⟩,hb⟩:=h;exact⟨⟨u,B,λh=>by cases h⟩,hb⟩
theorem yF(n:Nat)(F:qd (n+1))(x:al)(vs:a7)(d:D)(ds:List D)(v:al)(w:aa)(h:bU w v (x::vs))(c:cH w (n+1) (x::vs) (d::ds))(C:(d::ds).length<=1000)(B:aX d=true)(r:Bool)(Q:Hid (r=(decide (0<(aE d).length)&&(cI ((aE d).getD 0 (num 0))&&(bn [] (aE d).tail&&(decide (0<ds.length)&&ds.all (aG (n+1)))))))):
  cl 91 #[v] w (aW w (λe=>yH (aN (n+1)) (aE d) ds=some e) r):=by
 have E:=c.2.length;have hid:=c.1.len;have j:=ag c;have s:=ag h;obtain⟨a,cap,rfl,K,L,z⟩:=dx h c;obtain⟨g,off,rfl,X,S,x1,i,c0⟩:=z 0 (by simp);rw[rn] at c0;have y:=ag (show IV w (n+1) (.iface S x1) d from i);clear z h c i;unfold maxLen at L;simp only[j1] at *;have J:=ag F;have o:=ag E;clear F;have W:(((ds.length:Int)+1)==0)=false:=by rw[j2];omega
 have l:=ag B;clear B;go_enter func91,ntmps91;go_wp2_with fail;refine(gt n d (.iface S x1) _ y.out).mono ?_;rintro e w2 ⟨u,V,rfl,G,H,hb⟩;rw[l.out];have p:=ag G;have t:=ag H;have I:=ag hb;clear G H hb;have O:=ag (λ(tl:al) (M:bU w2 tl vs)=>yB (n+1) n J.out V vs (aE d) ds u tl w2 (bT.q p.out) t.out hid M (cH.ak (TX I.out) _ _ _ j.out.2) (by omega) r Q);have T:=ag (s.out.below I.out);clear p t hid j y s Q E c0 l;by_cases A:cap=1
 .have R:vs=[]:=ze.1 (by have:=o.out;omega);have N:ds.length=0:=by omega
  have U:=ag R;rw[N];clear R C K;subst A;go_wp2_with fail;refine(O.out _ (by rw[U.out];exact bU.none _ _)).mono ?_;intro e w3 h3;have b:=ag (h3.since I.out);obtain⟨⟨u3,rfl,_⟩,_⟩:=h3;go_wp2;go_ret2;exact b.out
 .go_wp2_with fail;refine(O.out _ (bU.tail T.out o.out)).mono ?_;intro e w3 h3;have b:=ag (h3.since I.out);obtain⟨⟨u3,rfl,_⟩,_⟩:=h3;go_wp2;go_ret2;exact b.out
theorem yE(n:Nat)(E:qd (n+1))(x:al)(vs:a7)(d:D)(ds:List D)(v:al)(w:aa)(b:bU w v (x::vs))(j:cH w (n+1) (x::vs) (d::ds))(C:(d::ds).length<=1000)(B:aX d=false)(r:Bool)(R:Hid (r=(decide ((d::ds).length=2)&&cI ((d::ds).getD 0 (ju []))&&((d::ds).drop 1).all (aG (n+1))))):
  cl 91 #[v] w (aW w (λe=>zV (aN (n+1)) G3 (d::ds)=some e) r):=by
 have Q:=ag (λ(w2:aa) (hb:Below w.heap.size w w2)=>NW (n+1) E (x::vs) (d::ds) v w2 (b.below hb) (cH.ak (TX hb) _ _ _ j) C r R);obtain⟨a,cap,rfl,Z,L,y⟩:=dx b j;obtain⟨g,off,rfl,U,X,x1,c,c0⟩:=y 0 (by simp);rw[rn] at c0;have q:=ag (show IV w (n+1) (.iface X x1) d from c);clear y b j c R E;unfold maxLen at L
 generalize T:zV (aN (n+1)) G3 (d::ds)=W at *
 have K:=ag T;clear T;simp only[j1] at *;have b0:(((ds.length:Int)+1)==0)=false:=by rw[j2];omega
 have p:=ag B;clear B;go_enter func91,ntmps91;go_wp2_with fail;refine(gt n d (.iface X x1) _ q.out).mono ?_;rintro e w2 ⟨u,us,rfl,M,N,hb⟩;rw[p.out];have I:=ag hb;clear M N hb q c0 p;go_wp2_with fail;refine(Q.out _ I.out).mono ?_;rintro e w3 ⟨⟨s,u3,rfl,G⟩,z⟩;have F:=I.out.size;have i:=ag (I.out.trans (z.mono F));have S:=ag G;clear z G Q;cases r with
 |false=>
  go_wp2;go_ret2;exact⟨⟨_,rfl,λh=>by cases h⟩,i.out⟩
 |true=>
  obtain⟨k,V,l⟩:=S.out rfl;have Y:=ag V;have O:=ag (jJ s (l.imp (P':=λg=>w.heap.size<=g) (TY _) λg o U ho=>⟨ho,ku F U⟩));obtain⟨t3,x3,rfl⟩:=l.form;clear S l V;go_wp2_with fail;refine O.out.mono ?_;rintro e w4 ⟨⟨v4,rfl,H⟩,A⟩;have t:=ag H;have J:=ag (i.out.trans (A.mono i.out.size));clear H A O;obtain⟨t4,x4,rfl⟩:=t.out.form;go_wp2;go_ret2;exact⟨⟨_,rfl,λ_=>⟨_,by rw[<-K.out];exact Y.out G3,t.out⟩⟩,J.out⟩
def Hw(f:D->Bool)(ds:List D):Bool:=
 if 2<=ds.length/\0<(aE (ds.getD 0 (num 0))).length
 then cI ((aE (ds.getD 0 (num 0))).getD 0 (num 0))&&bn [] (aE (ds.getD 0 (num 0))).tail&&(ds.drop 1).all f
 else decide (ds.length=2)&&cI (ds.getD 0 (ju []))&&(ds.drop 1).all f
theorem BD(n:Nat)(l:qd n)(vs:a7)(ds:List D)(v:al)(w:aa)(c:bU w v vs)(b:cH w n vs ds)(i:ds.length<=1000)(r:Bool)(p:Hid (r=Hw (aG n) ds)):
  cl 91 #[v] w (aW w (λe=>tu (aN n) ds=some e) r):=by
 match vs,ds,b with
 |[],[],_=>
  obtain⟨a,cap,rfl,_⟩:=c;have t:r=false:=by rw[p.out];rfl
  subst t;exact(BE a cap w).mono λe w' h=>h.mono (λ_ j=>j.elim)
 |x::vs,d::ds,b=>
  cases n with
  |zero=>exact b.1.elim
  |succ n=>
   by_cases hi:aX d=true
   .refine(yF n l x vs d ds v w c b i hi r ?_).mono λe w' h=>h.mono (λk j=>by rw[tu,fN hi];exact j);show _=_;rw[p.out];unfold Hw;simp only[Sc,yd,RQ,j1];by_cases q:0<(aE d).length
    .by_cases h3:0<ds.length
     .rw[fN ⟨by omega,q⟩];simp[q,h3,Sx]
     .rw[fb (by omega)];have o:ds.length=0:=by omega
      simp[o]
    .rw[fb (by omega)];have s:cI d=false:=by cases d<;>first|rfl|cases hi
     have o:(aE d).length=0:=by omega
     simp[s,o]
   .have hi:aX d=false:=by simpa using hi
    refine(yE n l x vs d ds v w c b i hi r ?_).mono λe w' h=>h.mono (λk j=>by rw[tu,fb (by rw[hi];decide)];exact j);show _=_;rw[p.out];unfold Hw;have o:(aE d).length=0:=by cases d<;>first|rfl|cases hi
    rw[fb (by simp only[Sc];omega)]
theorem EV.drew{w:aa}{n:E}{v:al}(h:EV w P n v):EV w.drew P n v:=EV.imp (w:=w) (w':=w.drew) (P:=P) (P':=P) (TY w) (λg o a ho=>⟨ho,a⟩) h
theorem Kn{ds:a7}(h:ds.length=3):∃a b c,ds=[a,b,c]:=by
 match ds,h with
 |[a,b,c],_=>exact⟨a,b,c,rfl⟩
theorem Nv{ds:a7}(h:ds.length=2):∃a b,ds=[a,b]:=by
 match ds,h with
 |[a,b],_=>exact⟨a,b,rfl⟩
theorem Bu(n:Nat)(vs:a7)(ds:List D)(v:al)(w:aa)(b:bU w v vs)(c:cH w n vs ds)(j:ds.length<=1000)(h2:¬ds.length=2)(h3:¬ds.length=3):
  cl 90 #[v] w (aW w (λ_=>False) false):=by
 obtain⟨a,cap,rfl,l,i,d⟩:=dx b c;unfold maxLen at i;have b1:((ds.length:Int) !=2)=true:=by simp;omega
 have b2:((ds.length:Int) !=3)=true:=by simp;omega
 clear d b c h2 h3;go_enter func90,ntmps90;go_wp2;go_ret2;exact⟨⟨_,rfl,λh=>by cases h⟩,fL _ _⟩
theorem Bs(n:Nat)(i:qd n)(vs:a7)(ds:List D)(v:al)(w:aa)(b:bU w v vs)(d:cH w n vs ds)(q:ds.length=2)(c:ds.all (aG n)=false):
  cl 90 #[v] w (aW w (λ_=>False) false):=by
 have j:=ag (iJ n i vs ds v w b d (by omega) false c.symm);obtain⟨a,cap,rfl,o,p,l⟩:=dx b d;unfold maxLen at p;rw[q] at j o;rw[q];clear l b d q c i;go_enter func90,ntmps90;go_wp2_with fail;refine j.out.mono ?_;rintro e w2 ⟨⟨u,rfl,t,h1⟩,hb⟩;have s:=ag hb;clear hb j t h1;go_wp2;go_ret2;exact⟨⟨_,rfl,λh=>by cases h⟩,s.out⟩
theorem Bt(n:Nat)(i:qd n)(vs:a7)(ds:List D)(v:al)(w:aa)(b:bU w v vs)(d:cH w n vs ds)(q:ds.length=3)(c:ds.all (aG n)=false):
  cl 90 #[v] w (aW w (λ_=>False) false):=by
 have j:=ag (iJ n i vs ds v w b d (by omega) false c.symm);obtain⟨a,cap,rfl,o,p,l⟩:=dx b d;unfold maxLen at p;rw[q] at j o;rw[q];clear l b d q c i;go_enter func90,ntmps90;go_wp2_with fail;refine j.out.mono ?_;rintro e w2 ⟨⟨u,rfl,t,h1⟩,hb⟩;have s:=ag hb;clear hb j t h1;go_wp2;go_ret2;exact⟨⟨_,rfl,λh=>by cases h⟩,s.out⟩
theorem vU(n:Nat)(l:qd n)(vs:a7)(ds:List D)(v:al)(w:aa)(c:bU w v vs)(i:cH w n vs ds)(q:ds.length=3)(d:ds.all (aG n)=true):
  cl 90 #[v] w (aW w (λe=>(bF (aN n) ds).bind Pw=some e) true):=by
 have s:=ag (iJ n l vs ds v w c i (by omega) true d.symm);obtain⟨a,cap,rfl,y,z,t⟩:=dx c i;unfold maxLen at z;rw[q] at s y;rw[q];have H:=ag q;clear t c i q d l;go_enter func90,ntmps90;go_wp2_with fail;refine s.out.mono ?_;rintro e w2 ⟨⟨u,rfl,J,h1⟩,hb⟩;obtain⟨es,k,F,j,o,E⟩:=h1 rfl;have C:=ag hb;obtain⟨O,cap2,rfl,K,A,h⟩:=ay o;unfold maxLen at A;rw[H.out] at j;obtain⟨Q,R,e2,rfl⟩:=Kn j;obtain⟨g,rfl,_,S,p⟩:=h (by simp);have c0:=p 0 _ rfl;have c1:=p 1 _ rfl;have c2:=p 2 _ rfl;have b:=wo E;cases b with
 | @cons L T _ _ B b=>
 cases b with
 | @cons M U _ _ x1 b=>
 cases b with
 | @cons N m2 _ _ x2 b=>
 cases b;obtain⟨V,Y,rfl⟩:=B.form;obtain⟨W,Z,rfl⟩:=x1.form;obtain⟨X,y2,rfl⟩:=x2.form;have I:=ag (EV.ite B x1 x2);have G:=ag F;clear hb s J h1 E o h p B x1 x2 F j;simp only[j1,R0] at *;go_wp2;go_region;go_wp2;go_ret2;exact⟨⟨_,rfl,λ_=>⟨.ite L M N,by rw[G.out];rfl,I.out.drew⟩⟩,by first|exact C.out|exact C.out.drew⟩
theorem Bv(n:Nat)(K:qd n)(vs:a7)(ds:List D)(v:al)(w:aa)(i:bU w v vs)(z:cH w n vs ds)(Q:ds.length=2)(s:ds.all (aG n)=true):
  cl 90 #[v] w (aW w (λe=>(bF (aN n) ds).bind Pw=some e) true):=by
 have R:=ag (iJ n K vs ds v w i z (by omega) true s.symm);obtain⟨a,cap,rfl,T,U,S⟩:=dx i z;unfold maxLen at U;rw[Q] at R T;rw[Q];have HL:=ag Q;obtain⟨i0,hi,L,M,N⟩:=sv rK;have O:=ag (ei hi (ei L (ei M N)));clear S i z Q s K hi L M N;go_enter func90,ntmps90;go_wp2_with fail;refine R.out.mono ?_;rintro e w2 ⟨⟨u,rfl,h0,h1⟩,hb⟩;obtain⟨es,k,E,A,F,he⟩:=h1 rfl;have HB:=ag hb;have h3:=hb.size;obtain⟨a2,cap2,rfl,h4,V,t⟩:=ay F;unfold maxLen at V;rw[HL.out] at A;obtain⟨e0,e1,rfl⟩:=Nv A;obtain⟨g,rfl,_,hg,hc⟩:=t (by simp);have p:=ag F;cases he with
 | @cons n0 m0 _ _ x0 B=>
 cases B with
 | @cons n1 m1 _ _ x1 B=>
 cases B;obtain⟨t0,y0,rfl⟩:=x0.form;obtain⟨t1,y1,rfl⟩:=x1.form;have H:=ag x0;have I:=ag x1;have HK:=ag E;clear hb R h0 h1 F t hc x0 x1 E A;simp only[j1,R0] at *;go_wp2_with (at_builtin;refine nl _ rfl (.tmp 24) (.tmp 29) 79 rfl w.heap.size 83 i0 .nilIface 1 16 underlying79 O.out.1 O.out.2.1 O.out.2.2.1 O.out.2.2.2 rfl (by decide) _ 2 [.iface t0 y0,.iface t1 y1] rfl (p.out.alloc _) (dq w2.heap.size 0) 1 1 [.iface 133 (.agg #[.iface 259 (.agg #[])])] rfl rfl (RW _ _ _) (by intro u hu;simp at hu;subst hu;rfl) (by decide) (by unfold maxLen;omega) (by omega) (by simp;omega) (w2.heap.size+1) (by simp) ?_);intro g4 cap4 w4 d b J h2;have l:=bC b;obtain⟨a5,cap5,X,h5,W,y⟩:=ay d;obtain⟨g5,Y,_,h6,q⟩:=y (by simp);cases X;cases Y;unfold maxLen at W;have c0:=q 0 _ rfl;have c1:=q 1 _ rfl;have c2:=q 2 _ rfl;have kp4:aC 205 w2 w4:=T1 l λk c E h=>by
  rcases p.out.2 with⟨Z,_⟩|⟨g,cap,cu,Z,hg,hh,r⟩
  .rw[Z] at E;cases E
  .rw[Z] at E;cases E;rw[hh] at h;cases h
 have HV:=ag (EV.ite (P:=λg=>w.heap.size<=g) (H.out.imp kp4 λj o C ho=>⟨l.at ho C.2,C.1⟩) (I.out.imp kp4 λj o C ho=>⟨l.at ho C.2,C.1⟩) (EV.nothing (w:=w4)));clear kp4;have G:=ag (HB.out.trans (l.below HB.out.size (by intro j C;exact(ar p.out C).1)));clear d b y q H I p l J;go_wp2;go_region;go_wp2;go_ret2;exact⟨⟨_,rfl,λ_=>⟨.ite n0 n1 .nothing,by rw[HK.out];rfl,HV.out.drew⟩⟩,by first|exact G.out|exact G.out.drew⟩
theorem Br(n:Nat)(c:qd n)(vs:a7)(ds:List D)(v:al)(w:aa)(a:bU w v vs)(b:cH w n vs ds)(l:ds.length<=1000)(r:Bool)(i:Hid (r=((decide (ds.length=2)||decide (ds.length=3))&&ds.all (aG n)))):
  cl 90 #[v] w (aW w (λe=>(bF (aN n) ds).bind Pw=some e) r):=by
 by_cases h2:ds.length=2
 .cases hall:ds.all (aG n) with
  |false=>
   have d:r=false:=by rw[i.out,hall,RB]
   subst d;exact(Bs n c vs ds v w a b h2 hall).mono λe w' h=>h.mono (λ_ j=>j.elim)
  |true=>
   have d:r=true:=by rw[i.out,hall];simp[h2]
   subst d;exact Bv n c vs ds v w a b h2 hall
 .by_cases h3:ds.length=3
  .cases hall:ds.all (aG n) with
   |false=>
    have d:r=false:=by rw[i.out,hall,RB]
    subst d;exact(Bt n c vs ds v w a b h3 hall).mono λe w' h=>h.mono (λ_ j=>j.elim)
   |true=>
    have d:r=true:=by rw[i.out,hall];simp[h3]
    subst d;exact vU n c vs ds v w a b h3 hall
  .have d:r=false:=by rw[i.out];simp[h2,h3]
   subst d;exact(Bu n vs ds v w a b l h2 h3).mono λe w' h=>h.mono (λ_ j=>j.elim)
end Go.Proofs.YtlobegpjenabaaaGreatDoor
