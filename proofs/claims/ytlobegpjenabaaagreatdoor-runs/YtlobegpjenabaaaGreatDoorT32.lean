import Derived.Test.YtlobegpjenabaaaGreatDoorT31
namespace Go.Proofs.YtlobegpjenabaaaGreatDoor
open Go.RowKit Tryz
set_option linter.unusedVariables false
set_option linter.defProp false
set_option maxRecDepth 100000
set_option maxHeartbeats 4000000
def SM:=@Value.slice.inj
def SU:=@List.getElem?_concat_length
def S2:=@List.getElem?_replicate
variable {g k N i j B e s n k' i0 a:Nat} {w1 w2 w' w3:aa} {o o1 o2 o':Nat->Option Nat} {zb zb':Nat->Option ao} {u:Sl} {z:ao} {α β:Type} {xs news:a7} {c':bc} {T T':bi} {x':Nat->a7} {ls':List Sl} {zs':List ao} {p:Pm} {r:RR}
def Oe(w:aa)(e:bo)(w':aa):Prop:=e=.returned (.bool true)/\Below w.heap.size w w'
def Tx(w:aa)(a:a8)(b:List ao):Prop:=∀(k:Nat) z,b[k]? =some z->∃g,a=eb g/\w.cell? ⟨g,k,none⟩=some (.string z)
theorem ir{w:aa}{v:al}(h:Cl w g k v):g<w.heap.size:=World.block_lt_of_cell? w _ h
theorem Km(w:aa)(a b:a8)(c d:Nat)(zs:List ao)(t:Tx w a zs)(hb:Tx w b zs)(L:zs.length<=1000000):cl 74 #[.slice a zs.length c,.slice b zs.length d] w (Oe w):=by
 have A:=ag t;have C:=ag hb;clear t hb;go_enter func74,ntmps74;go_wp2
 go_loopw [5] (λi wr=>∃k:Nat,k<=zs.length/\i=Jn k/\Below w.heap.size w wr) (λi _=>zs.length-(intOf i).toNat)
 case atStart=>exact⟨0,kc _,rfl,fL _ _⟩
 case round=>
  obtain⟨k,K,rfl,hb⟩:=hrel;have H:=hb.size;have f:=ag hb;by_cases hlt:k<zs.length
  .obtain⟨F,rfl,h⟩:=A.out k _ (fA hlt);obtain⟨G,rfl,l⟩:=C.out k _ (fA hlt);have D:=(hb.cell (p:=(dq F k)) (ir h)).trans h;have E:=(hb.cell (p:=(dq G k)) (ir l)).trans l;obtain⟨y,v⟩:∃y:ao,y=zs[k]:=⟨_,rfl⟩;rw[<-v] at D E;have J:(k:Int)<(zs.length:Int):=by omega
   clear v h l hb;go_wp2;go_region;go_wp2;go_roundw
   case rel=>exact⟨k+1,by omega,rfl,f.out.drew⟩
   case measure=>simp[intOf];omega
  .have q:k=zs.length:=by omega
   subst q;clear hb;go_wp2;go_ret;exact⟨rfl,f.out⟩
structure Lc where
 r:Nat->Sl
 last:Int
def Sl.w(u:Sl):al:=.slice u.a u.n u.c
def Lc.c(m:Lc):bc:= #[(m.r 0).w,(m.r 1).w,(m.r 2).w,(m.r 3).w,.int .i64 m.last]
def mA(w:aa)(W:Nat)(m:Lc):Prop:=w.heap[W]? =some (Obj.cells m.c 28 (0,0))
def Kp(w:aa)(m:Lc):Prop:=∀i,i<(m.r 2).n->∃g h u z,(m.r 2).a=eb g/\(m.r 3).a=eb h/\i<(m.r 3).n/\w.cell? ⟨g,i,none⟩=some (Sl.w u)/\w.cell? ⟨h,i,none⟩=some (.string z)/\u.n<=1000000/\Tx w u.a (List.replicate u.n z)
theorem Mf(w:aa)(W:Nat)(m:Lc)(h:mA w W m)(q:Kp w m)(F:(m.r 2).n<=1000000000):cl 35 #[Pt W] w (Oe w):=by
 obtain⟨⟨la,ln,lc⟩,v⟩:∃u,u=m.r 2:=⟨_,rfl⟩;obtain⟨⟨ma,G,mc⟩,hm⟩:∃u,u=m.r 3:=⟨_,rfl⟩;unfold Kp at q;rw[<-v,<-hm] at q;rw[<-v] at F;have c2:w.cell? (dq W 2)=some (.slice la ln lc):=by rw[ae h];show some (Sl.w (m.r 2))=_;rw[<-v];rfl
 have c3:w.cell? (dq W 3)=some (.slice ma G mc):=by rw[ae h];show some (Sl.w (m.r 3))=_;rw[<-hm];rfl
 have A:=ai h;have H:=ag q;simp only at F;clear q h v hm;go_enter func35,ntmps35;go_wp2
 go_loopw [3] (λi wr=>∃k:Nat,k<=ln/\i=Jn k/\Below w.heap.size w wr) (λi _=>ln-(intOf i).toNat)
 case atStart=>exact⟨0,kc _,rfl,fL _ _⟩
 case round=>
  obtain⟨i,hi,rfl,hb⟩:=hrel;have C:=hb.size;have l:=ag hb;have K:=(hb.cell (p:=(dq W 2)) A).trans c2;by_cases hlt:i<ln
  .obtain⟨g,h,⟨U,un,V⟩,z,rfl,rfl,M,d,t,E,c⟩:=H.out i hlt;unfold Sl.w at d;simp only at d E c;have O:(i:Int)<(ln:Int):=by omega
   have J:=ag c;clear hb c;go_wp2
   go_loopw [4] (λj wr=>∃k:Nat,k<=un/\j=Jn k/\Below w.heap.size w wr) (λj _=>un-(intOf j).toNat)
   case atStart=>exact⟨0,kc _,rfl,l.out⟩
   case round=>
    obtain⟨k,q,rfl,hb⟩:=hrel;have C:=hb.size;have f:=ag hb;have K:=(hb.cell (p:=(dq W 2)) A).trans c2;have R:=(hb.cell (p:=(dq W 3)) A).trans c3;have S:=(hb.cell (p:=(dq g i)) (ir d)).trans d;have e2:=(hb.cell (p:=(dq h i)) (ir t)).trans t;by_cases D:k<un
    .obtain⟨L,rfl,y⟩:=J.out k z (by rw[S2,fN D]);have e3:=(hb.cell (p:=(dq L k)) (ir y)).trans y;have P:(k:Int)<(un:Int):=by omega
     have Q:(i:Int)<(G:Int):=by omega
     clear hb d t y c2 c3;go_wp2;go_region;go_wp2;go_roundw
     case rel=>exact⟨k+1,by omega,rfl,f.out.drew⟩
     case measure=>simp[intOf];omega
    .have b:k=un:=by omega
     subst b;clear hb d t c2 c3;go_wp2;go_roundw
     case rel=>exact⟨i+1,by omega,rfl,f.out⟩
     case measure=>simp[intOf];omega
  .have b:i=ln:=by omega
   subst b;clear hb;go_wp2;go_ret;exact⟨rfl,l.out⟩
def QO:List bi:=[28,69,101,26,9]
def LT:Nat->bi
 |0=>69
 |1=>101
 |2=>26
 |_=>9
def Lz:Nat->Nat
 |0=>2
 |1=>2
 |_=>1
def Lk(w:aa)(b:Nat->Option ao)(u:Sl)(z:ao):Prop:=u.n<=1000000/\(u.n=0\/∃g c,u.a=eb g/\b g=some z/\w.heap[g]? =some (Obj.cells c 9 (0,0))/\∀k,k<u.n->c[k]? =some (.string z))
structure LS(B:Nat)(w:aa)(a:Nat->Option Nat)(b:Nat->Option ao)(W:Nat)(m:Lc)(x:Nat->a7)(ls:List Sl)(d:List ao):Prop where
 lc:mA w W m
 oW:a W≠none
 ty:∀k,a k≠none->B<=k/\∃c T,w.heap[k]? =some (Obj.cells c T (0,0))/\QO.contains T=true
 ro:∀i,i<4->w.ownsRow B (LT i) (Lz i) (m.r i).w (m.r i).n (x i)
 rb:∀i,i<4->∀k,(m.r i).w.ownBlock=some k->a k≠none/\b k=none
 x2:x 2=ls.map Sl.w
 x3:x 3=d.map Value.string
 kp:∀(i:Nat) u z,ls[i]? =some u->d[i]? =some z->Lk w b u z
 zo:∀k z,b k=some z->a k≠none/\∃c,w.heap[k]? =some (Obj.cells c 9 (0,0))
 la:0<=m.last
structure Lg(N:Nat)(w:aa)(b:Nat->Option Nat)(w':aa)(a:Nat->Option Nat):Prop where
 upd:aB (λk=>b k≠none\/N<=k) w w'
 on:∀k,b k≠none->a k≠none
 old:∀k,k<N->b k=none->a k=none
theorem Lg.refl(N:Nat)(w:aa)(ol:Nat->Option Nat):Lg N w ol w ol:=⟨TU _ _,λ_ h=>h,λ_ _ h=>h⟩
theorem Lg.trans{w:aa}(h:Lg N w o w1 o1)(k:Lg N w1 o1 w2 o2):Lg N w o w2 o2:=
 ⟨h.upd.trans k.upd λj d b=>by
  rcases b with b|b
  .by_cases c:j<N
   .exact .inl λe=>b (h.old j c e)
   .exact .inr (by omega)
  .exact .inr b,λj d=>k.on j (h.on j d),λj c e=>k.old j c (h.old j c e)⟩
theorem Lg.below{w:aa}(h:Lg N w o w1 o1)(hb:Below w1.heap.size w1 w2):Lg N w o w2 o1:=h.trans ⟨TW _ hb,λ_ h=>h,λ_ _ h=>h⟩
theorem Lk.same{w:aa}(h:Lk w zb u z)(f:∀k z,zb k=some z->w'.heap[k]? =w.heap[k]?):Lk w' zb u z:=by
 rcases h with⟨b,h|⟨g,c,h1,h2,h3,d⟩⟩
 .exact⟨b,.inl h⟩
 .exact⟨b,.inr ⟨g,c,h1,h2,(f g z h2).trans h3,d⟩⟩
def iH{α:Type}(f:Nat->α)(i:Nat)(a:α):Nat->α:=λk=>if k=i then a else f k
theorem br(f:Nat->α)(i:Nat)(a:α):iH f i a i=a:=fN rfl
theorem bg(f:Nat->α)(a:α)(h:j≠i):iH f i a j=f j:=fb h
variable {B:Nat} {w w':aa} {ol:Nat->Option Nat} {zb:Nat->Option ao} {W:Nat} {m:Lc} {x:Nat->a7} {ls:List Sl} {zs:List ao}
theorem LS.other(h:LS B w ol zb W m x ls zs)(c:∀k,ol k≠none->w'.heap[k]? =w.heap[k]?):LS B w' ol zb W m x ls zs:=
 ⟨(c W h.oW).trans h.lc,h.oW,λk b=>⟨(h.ty k b).1,by rw[c k b];exact(h.ty k b).2⟩,λi hi=>dK (h.ro i hi) λk b=>c k (h.rb i hi k b).1,h.rb,h.x2,h.x3,λi u z h1 h2=>(h.kp i u z h1 h2).same λk z b=>c k (h.zo k z b).1,λk z b=>⟨(h.zo k z b).1,by rw[c k (h.zo k z b).1];exact(h.zo k z b).2⟩,h.la⟩
theorem LS.lt(h:LS B w ol zb W m x ls zs)(b:ol k≠none):k<w.heap.size:=by
 obtain⟨_,c,T,h1,_⟩:=h.ty k b;exact ai h1
theorem LS.below(h:LS B w ol zb W m x ls zs)(hb:Below w.heap.size w w'):LS B w' ol zb W m x ls zs:=h.other λk b=>hb.block k (h.lt b)
theorem ie{w:aa}{v:al}(h:w.ownsRow B e s v n xs)(b:v.ownBlock=some k):∃c,w.heap[k]? =some (Obj.cells c e (0,0)):=by
 rcases h.2 with⟨rfl,_⟩|⟨g,d,f,rfl,_,l,_⟩
 .cases b
 .cases b;exact⟨f,l⟩
theorem jR{w:aa}{c:bc}{f d:Nat×Nat}(h:w.heap[k]? =some (Obj.cells c T f))(b:w.heap[k']? =some (Obj.cells c' T' d))(l:T≠T'):k≠k':=λe=>by
 subst e;rw[h] at b;cases b;exact l rfl
theorem KU(i:Nat):LT i≠28:=by
 unfold LT;split<;>decide
theorem LS.Gh(h:LS B w ol zb W m x ls zs)(t:Int)(A:0<=t)(l:mA w' W {m with last:=t})(q:aB (λk=>k=W) w w')(N:Nat):LS B w' ol zb W {m with last:=t} x ls zs/\Lg N w ol w' ol:=by
 have f:∀k,ol k≠none->k≠W->w'.heap[k]? =w.heap[k]?:=λk b y=>q.block k (h.lt b) y;have v:∀k z,zb k=some z->w'.heap[k]? =w.heap[k]?:=λk z b=>by
  obtain⟨c,d⟩:=(h.zo k z b).2;exact f k (h.zo k z b).1 (jR d h.lc (by decide))
 refine⟨⟨l,h.oW,λk b=>⟨(h.ty k b).1,?_⟩,λi hi=>dK (h.ro i hi) λk b=> ?_,h.rb,h.x2,h.x3,λi u z h1 h2=>(h.kp i u z h1 h2).same v,λk z b=>⟨(h.zo k z b).1,by rw[v k z b];exact(h.zo k z b).2⟩,A⟩,⟨q.mono λk e=>by subst e;exact .inl h.oW,λ_ h=>h,λ_ _ h=>h⟩⟩
 .by_cases e:k=W
  .subst e;exact⟨_,_,l,by decide⟩
  .rw[f k b e];exact(h.ty k b).2
 .obtain⟨c,d⟩:=ie (h.ro i hi) b;exact f k (h.rb i hi k b).1 (jR d h.lc (KU i))
theorem LS.NL(h:LS B w ol zb W m x ls zs)(z:ao)(g:Nat)(c:bc)(l:w.heap[g]? =some (.cells c 9))(hB:B<=g)(ho:ol g=none)(N:Nat)(C:N<=g):LS B w (iH ol g (some 0)) (iH zb g (some z)) W m x ls zs/\Lg N w ol w (iH ol g (some 0)):=by
 have on:∀k,ol k≠none->iH ol g (some 0) k≠none:=λk b=>by unfold iH;split<;>simp_all
 have d:∀k,ol k≠none->k≠g:=λk b e=>b (by rw[e];exact ho);refine⟨⟨h.lc,on W h.oW,λk b=> ?_,h.ro,λi hi k b=>⟨on k (h.rb i hi k b).1,(bg _ _ (d k (h.rb i hi k b).1)).trans (h.rb i hi k b).2⟩,h.x2,h.x3,λi u z h1 h2=> ?_,λk v b=> ?_,h.la⟩,⟨TU _ _,on,λk b e=>(bg _ _ (by omega)).trans e⟩⟩
 .by_cases e:k=g
  .subst e;exact⟨hB,c,_,l,by decide⟩
  .rw[bg _ _ e] at b;exact h.ty k b
 .rcases h.kp i u z h1 h2 with⟨q,h3|⟨f,c',y,t,A⟩⟩
  .exact⟨q,.inl h3⟩
  .exact⟨q,.inr ⟨f,c',y,(bg _ _ (d f (h.zo f z t).1)).trans t,A⟩⟩
 .by_cases e:k=g
  .subst e;exact⟨by rw[br];simp,c,l⟩
  .rw[bg _ _ e] at b;exact⟨on k (h.zo k v b).1,(h.zo k v b).2⟩
theorem LS.Rj(h:LS B w ol zb W m x ls zs)(z:ao)(S:a9)(hS:∀k,S k->zb k=some z)(C:aB S w w')(D:∀g c,S g->w.heap[g]? =some (Obj.cells c 9 (0,0))->∃c',w'.heap[g]? =some (Obj.cells c' 9 (0,0))/\QT [.string z] c c')(N:Nat):LS B w' ol zb W m x ls zs/\Lg N w ol w' ol:=by
 have l:∀k,ol k≠none->¬S k->w'.heap[k]? =w.heap[k]?:=λk b f=>C.block k (h.lt b) f;have A:∀k,zb k=none->¬S k:=λk b e=>by rw[hS k e] at b;cases b
 have K:¬S W:=λe=>by
  obtain⟨_,c,t⟩:=h.zo W z (hS W e);exact jR t h.lc (by decide) rfl
 have F:∀k d,zb k=some d->∃c',w'.heap[k]? =some (Obj.cells c' 9 (0,0)):=λk d b=>by
  obtain⟨h1,c,t⟩:=h.zo k d b;by_cases e:S k
  .obtain⟨c',q,_⟩:=D k c e t;exact⟨c',q⟩
  .exact⟨c,(l k h1 e).trans t⟩
 refine⟨⟨(l W h.oW K).trans h.lc,h.oW,λk b=>⟨(h.ty k b).1,?_⟩,λi hi=>dK (h.ro i hi) λk b=>l k (h.rb i hi k b).1 (A k (h.rb i hi k b).2),h.rb,h.x2,h.x3,λi u d h1 h2=> ?_,λk d b=>⟨(h.zo k d b).1,F k d b⟩,h.la⟩,⟨C.mono λk e=>.inl (h.zo k z (hS k e)).1,λ_ h=>h,λ_ _ h=>h⟩⟩
 .by_cases e:S k
  .obtain⟨c,q⟩:=F k z (hS k e);exact⟨c,_,q,by decide⟩
  .rw[l k b e];exact(h.ty k b).2
 .rcases h.kp i u d h1 h2 with⟨f,h3|⟨g,c,G,v,H,J⟩⟩
  .exact⟨f,.inl h3⟩
  .by_cases e:S g
   .obtain⟨c',r1,r2⟩:=D g c e H;have:=hS g e;rw[v] at this;cases this;refine⟨f,.inr ⟨g,c',G,v,r1,λk b=> ?_⟩⟩;rcases r2 k _ (J k b) with r|⟨y,E,r⟩
    .exact r
    .rw[Se] at E;subst E;exact r
   .exact⟨f,.inr ⟨g,c,G,v,(l g (h.zo g d v).1 e).trans H,J⟩⟩
theorem Lc.set(m:Lc)(i:Nat)(u:Sl)(hi:i<4):m.c.setIfInBounds i u.w=Lc.c {m with r:=iH m.r i u}:=by
 obtain rfl|rfl|rfl|rfl:i=0\/i=1\/i=2\/i=3:=by omega
 all_goals rfl
theorem LS.stay(h:LS B w ol zb W m x ls zs)(hb:Below w.heap.size w w1)(hi:i<4){c:Nat}(b:nL w1 B (LT i) (Lz i) (m.r i).w (m.r i).n (x i) news g c w2):mA w2 W m:=by
 have h1:=h.below hb;rw[mA,b.upd.block W (h1.lt h.oW) (λe=>by
  obtain⟨c,d⟩:=ie (h1.ro i hi) e.symm;exact jR d h1.lc (KU i) rfl)]
 exact h1.lc
theorem LS.push(h:LS B w ol zb W m x ls zs)(hb:Below w.heap.size w w1)(i:Nat)(hi:i<4)(news:a7)(g c:Nat)(l:nL w1 B (LT i) (Lz i) (m.r i).w (m.r i).n (x i) news g c w2)(e3:w3=w2.setCell (dq W i) (.slice (eb g) ((m.r i).n+1) c))(ls':List Sl)(zs':List ao)(e1:iH x i (x i++news) 2=ls'.map Sl.w)(e2:iH x i (x i++news) 3=zs'.map Value.string)(X:∀(j:Nat) u z,ls'[j]? =some u->zs'[j]? =some z->Lk w zb u z)(N:Nat)(hN:N<=w1.heap.size):
  LS B w3 (iH ol g (some 0)) zb W {m with r:=iH m.r i ⟨eb g,(m.r i).n+1,c⟩} (iH x i (x i++news)) ls' zs'/\Lg N w ol w3 (iH ol g (some 0)):=by
 have h1:=h.below hb;have P:=h.rb i hi;have U:∀k,ol k≠none->(m.r i).w.ownBlock≠some k->w2.heap[k]? =w1.heap[k]?:=λk d K=>l.upd.block k (h1.lt d) (λe=>K e.symm);have E:mA w2 W m:=h.stay hb hi l;have y:∀k,k≠W->w3.heap[k]? =w2.heap[k]?:=λk d=>by rw[e3];exact R6 _ _ _ _ d
 have F:mA w3 W {m with r:=iH m.r i ⟨eb g,(m.r i).n+1,c⟩}:=by
  rw[e3];unfold mA;rw[TH E,<-Lc.set m i ⟨eb g,(m.r i).n+1,c⟩ hi];rfl
 have J:∃cc,w2.heap[g]? =some (Obj.cells cc (LT i) (0,0)):=ie l.own rfl;obtain⟨gc,H⟩:=J;have G:g≠W:=jR H E (KU i);have D:QO.contains (LT i)=true:=by
  obtain rfl|rfl|rfl|rfl:i=0\/i=1\/i=2\/i=3:=by omega
  all_goals decide
 have f:∀k,ol k≠none->k≠W->(m.r i).w.ownBlock≠some k->w3.heap[k]? =w1.heap[k]?:=λk d C K=>(y k C).trans (U k d K);have M:∀k z,zb k=some z->w3.heap[k]? =w1.heap[k]?:=λk z d=>by
  obtain⟨q,cc,O⟩:=h1.zo k z d;refine f k q (jR O h1.lc (by decide)) λe=> ?_;have:=(P k e).2;rw[d] at this;cases this
 have V:zb g=none:=by
  cases hz:zb g with
  |none=>rfl
  |some z=>
   rcases l.new with e|e
   .rw[(P g e).2] at hz;cases hz
   .have:=h1.lt (h1.zo g z hz).1;omega
 have on:∀k,ol k≠none->iH ol g (some 0) k≠none:=λk d=>by unfold iH;split<;>simp_all
 refine⟨⟨F,on W h.oW,λk d=> ?_,λj A=> ?_,λj A k d=> ?_,e1,e2,λj u z q1 q2=>(X j u z q1 q2).same λk z d=>(M k z d).trans (hb.block k (h.lt (h.zo k z d).1)),λk z d=>⟨on k (h.zo k z d).1,by rw[M k z d];exact(h1.zo k z d).2⟩,h.la⟩,⟨?_,on,λk d e=> ?_⟩⟩
 .by_cases e:k=g
  .subst e;refine⟨?_,gc,_,(y k G).trans H,D⟩;exact(ar l.own rfl).1
  .rw[bg _ _ e] at d;refine⟨(h.ty k d).1,?_⟩;by_cases R:k=W
   .subst R;exact⟨_,_,F,by decide⟩
   .by_cases er:(m.r i).w.ownBlock=some k
    .obtain⟨Z,S⟩:=ie (h1.ro i hi) er;obtain⟨Q,q,_⟩:=l.old k Z er S;exact⟨Q,_,(y k R).trans q,D⟩
    .rw[f k d R er];exact(h1.ty k d).2
 .by_cases e:j=i
  .subst e;show w3.ownsRow B (LT j) (Lz j) (iH m.r j _ j).w (iH m.r j _ j).n (iH x j _ j);rw[br,br];exact dK l.own λk d=>by cases d;exact y g G
  .show w3.ownsRow B (LT j) (Lz j) (iH m.r i _ j).w (iH m.r i _ j).n (iH x i _ j);rw[bg _ _ e,bg _ _ e];refine dK (h1.ro j A) λk d=> ?_;obtain⟨cc,O⟩:=ie (h1.ro j A) d;refine f k (h.rb j A k d).1 (jR O h1.lc (KU j)) λer=> ?_;obtain⟨cd,hd⟩:=ie (h1.ro i hi) er;refine jR O hd (λet=>e ?_) rfl;have key:∀a b:Fin 4,LT a=LT b->a=b:=by decide
   exact Sq Fin.val (key ⟨j,A⟩ ⟨i,hi⟩ et)
 .by_cases e:j=i
  .subst e;have v:(iH m.r j ⟨eb g,(m.r j).n+1,c⟩ j).w.ownBlock=some k:=d;rw[br] at v;cases v;exact⟨by rw[br];simp,V⟩
  .have v:(iH m.r i ⟨eb g,(m.r i).n+1,c⟩ j).w.ownBlock=some k:=d;rw[bg _ _ e] at v;exact⟨on k (h.rb j A k v).1,(h.rb j A k v).2⟩
 .refine⟨by rw[e3];exact l.upd.os.trans hb.os,by rw[e3];exact l.upd.tape.trans hb.tape,by rw[e3];exact l.upd.output.trans hb.output,?_,λk d K=> ?_⟩
  .have:=hb.size;have:=l.upd.size;rw[e3];simp[World.setCell];omega
  .have L:ol k=none:=by
    cases e:ol k with
    |none=>rfl
    |some t=>exact absurd (.inl (by rw[e];simp)) K
   have C:k≠W:=λe=>h.oW (by rw[<-e];exact L);rw[y k C,l.upd.block k (gr d hb.size) (λe=>(P k e.symm).1 L)];exact hb.block k d
 .rw[bg]
  .exact e
  .rintro rfl;rcases l.new with q|q
   .exact(P k q).1 e
   .omega
def QS(w:aa)(W:Nat)(m:Lc)(e:bo)(w':aa):Prop:=∃z:ao,e=.returned (.string z)/\mA w' W {m with last:=m.last+1}/\aB (λk=>k=W) w w'
def N7(v:Nat)(z:ao):Prop:=∃j,z.size=4+j/\v *10^j<=1000000000000
theorem N7.on{v:Nat}{c:bp}(h:N7 v z):N7 (v/10) (z++⟨#[c]⟩):=by
 obtain⟨j,h1,h2⟩:=h;refine⟨j+1,by rw[ByteArray.size_append,h1];rfl,ku ?_ h2⟩;rw[TF,Nat.mul_comm (10^j),<-Nat.mul_assoc];exact Ta _ (Nat.div_mul_le_self _ _)
theorem N7.sz{v:Nat}(h:N7 v z)(b:0<v):z.size<=17:=by
 obtain⟨j,h1,h2⟩:=h;have h3:10^j<=1000000000000:=ku (Nat.le_mul_of_pos_left _ b) h2;have c:j<13:=(Nat.pow_lt_pow_iff_right (a:=10) (by decide)).1 (RI h3 (by decide));omega
theorem Ms(w:aa)(W:Nat)(m:Lc)(h:mA w W m)(K:0<=m.last/\m.last<1000000000000):cl 115 #[Pt W] w (QS w W m):=by
 have P:=kd h 4 (Jn m.last);have Q:=ah h 4;have J:=ai h;obtain⟨l1,l2⟩:=K;have H:=ag h;clear h;obtain⟨t,L⟩:∃t:Nat,(t:Int)=m.last+1:=⟨(m.last+1).toNat,by omega⟩;obtain⟨f,b⟩:∃f,f=w.setCell (dq W 4) (Jn (m.last+1)):=⟨_,rfl⟩;have A:Hid (mA f W {m with last:=m.last+1}/\aB (λk=>k=W) w f):=by
  constructor
  .rw[b];unfold mA;rw[TH H.out];congr 1
  .rw[b];exact(TU _ _).aY
 have E:Hid (N7 t ⟨#[109,97,114,107]⟩):=⟨0,rfl,by omega⟩;go_enter func115,ntmps115;go_wp2
 go_loopw [3,4] (λs n wr=>∃(v:Nat) (z:ao),n=Jn v/\s=.string z/\N7 v z/\Below f.heap.size f wr) (λ_ n _=>(intOf n).toNat)
 case atStart=>exact⟨t,⟨#[109,97,114,107]⟩,by rw[L],rfl,E.out,by rw[b];exact fL _ _⟩
 case round=>
  obtain⟨v,z,rfl,rfl,l,hb⟩:=hrel;have G:=ag l;have d:=ag hb;have q:=hb.size;by_cases R:(0:Int)<v
  .have y:=ri wr v;obtain⟨c,C⟩:∃c,c=UInt8.ofNat (48+v%10):=⟨_,rfl⟩;rw[<-C] at y;have O:(z.size:Int)<=20:=by have:=l.sz (by omega);omega
   have M:(v:Int)<=1000000000000:=by
    obtain⟨j,_,h2⟩:=l;have:=ku (Nat.le_mul_of_pos_right v (Nat.pow_pos (n:=j) (show 0<10 by decide))) h2;omega
   have D:((v/10:Nat):Int)=(v:Int)/10:=by omega
   have F:=ag D;clear C D l hb;go_wp2;go_roundw
   case rel=>exact⟨v/10,_,by rw[F.out],rfl,G.out.on,d.out.alloc q _⟩
   case measure=>simp[intOf];omega
  .clear l hb;go_wp2;go_ret;refine⟨_,rfl,?_,A.out.2.trans (TW (λ_=>False) d.out) (λ_ _ h=>h.elim)⟩;exact(d.out.block W (by rw[b];simpa[World.setCell] using J)).trans A.out.1
variable {B:Nat} {w w':aa} {ol:Nat->Option Nat} {zb:Nat->Option ao} {W:Nat} {m:Lc} {x:Nat->a7} {ls:List Sl} {zs:List ao}
theorem IF:(prog.info? 26).map (λi=>(i.zero,i.size,i.bytes))=some (some (.slice none 0 0),1,24):=by kernel_rfl
def QX(m:Lc)(x:Nat->a7)(a:Lc)(b:Nat->a7):Prop:=a.r 0=m.r 0/\a.r 1=m.r 1/\b 0=x 0/\b 1=x 1
def PP(B N:Nat)(w:aa)(h:Nat->Option Nat)(W:Nat)(m:Lc)(x:Nat->a7)(n:Nat)(e:bo)(w':aa):Prop:=e=.returned (.tuple #[])/\∃b f d g a c,LS B w' b f W d g a c/\Lg N w h w' b/\a.length=n+4/\c.length=n+4/\d.last=m.last+1/\QX m x d g
theorem M9{T:Nat}{c:Nat}{v:al}(h:w.ownsRow N T 1 (.slice (eb g) n c) n xs):(w.setCell (dq g k) v).ownsRow N T 1 (.slice (eb g) n c) n (xs.set k v):=by
 obtain⟨d,h1⟩:=h;rcases h1 with⟨h1,_⟩|⟨D,b,C,h3,f,l,q,t,y,A⟩
 .cases h1
 .cases h3;exact⟨by rw[s5];exact d,.inr ⟨g,c,_,rfl,f,TH l,q,t,by rw[Array.size_setIfInBounds];exact y,by rw[RY,S0,A]⟩⟩
theorem M4(a:α):∀(k:Nat) (xs:List α),k<xs.length->(List.replicate k a++xs.drop k).set k a=List.replicate (k+1) a++xs.drop (k+1):=λk xs b=>by
 rw[List.set_append,fb (by simp),List.length_replicate,SQ,K1 b,List.set_cons_zero,List.replicate_succ',RH];rfl
def ND(N:Nat)(w:aa)(a:Nat->Option ao)(u:Sl)(z:ao):Prop:=w.ownsRow N 9 1 u.w u.n (List.replicate u.n (.string z))/\∀k,u.w.ownBlock=some k->a k=some z
theorem ND.lk(h:ND N w zb u z)(t:u.n<=1000000):Lk w zb u z:=by
 refine⟨t,?_⟩;obtain⟨⟨v,h1⟩,h2⟩:=h;rcases h1 with⟨_,h1⟩|⟨g,d,b,h3,y,f,A,C,D,l⟩
 .exact .inl h1
 .have e:u.a=eb g:=(SM (show Value.slice u.a u.n u.c=_ from h3)).1;refine .inr ⟨g,b,e,h2 g (by rw[h3];rfl),f,λk q=> ?_⟩;have:(b.toList.take (u.n *1))[k]? =some (.string z):=by rw[l,S2,fN q]
  rw[Bk,fN (by omega),C1] at this;exact this
def QN(B N:Nat)(w:aa)(g:Nat->Option Nat)(W:Nat)(m:Lc)(x:Nat->a7)(n:Nat)(z:ao)(k:Nat)(u:Sl)(wr:aa):Prop:=∃b c e f a d,LS B wr b c W e f a d/\Lg N w g wr b/\a.length=n+k/\d.length=n+k/\e.last=m.last+1/\QX m x e f/\ND N wr c u z/\u.n<=1000+k
theorem ND.same(h:ND N w zb u z)(c:∀k,zb k=some z->w'.heap[k]? =w.heap[k]?):ND N w' zb u z:=⟨dK h.1 λk b=>c k (h.2 k b),h.2⟩
theorem LS.N2(h:LS B w ol zb W m x ls zs)(hb:Below w.heap.size w w1)(hi:i<4){c:Nat}(d:nL w1 B (LT i) (Lz i) (m.r i).w (m.r i).n (x i) news g c w2){v:al}(e3:w3=w2.setCell (dq W i) v)(k:Nat)(z:ao)(b:zb k=some z):w3.heap[k]? =w.heap[k]?:=by
 obtain⟨q,cc,f⟩:=h.zo k z b;rw[e3,R6 _ _ _ _ (show k≠W from jR f h.lc (by decide)),d.upd.block k (gr (h.lt q) hb.size) (λe=>by have:=(h.rb i hi k e.symm).2;rw[b] at this;cases this)];exact hb.block k (h.lt q)
theorem LS.more(h:LS B w ol zb W m x ls zs)(hb:Below w.heap.size w w1)(A:ND N w zb u z){c:Nat}(b:nL w1 N 9 1 u.w u.n (List.replicate u.n (.string z)) [.string z] g c w2)(F:B<=N)(J:N<=w1.heap.size):∃y zb',LS B w2 y zb' W m x ls zs/\Lg N w ol w2 y/\ND N w2 zb' ⟨eb g,u.n+1,c⟩ z:=by
 have h1:=h.below hb;have f:Lg N w ol w1 ol:=(Lg.refl _ _ _).below hb;obtain⟨h2,l⟩:=h1.Rj z (λk=>u.w.ownBlock=some k) A.2 ⟨b.upd.os,b.upd.tape,b.upd.output,b.upd.size,λk v H=>b.upd.block k v (λe=>H e.symm)⟩ (λg c G A=>b.old g c G A) N;have d:w2.ownsRow N 9 1 (Sl.w ⟨eb g,u.n+1,c⟩) (u.n+1) (List.replicate (u.n+1) (.string z)):=by
  rw[List.replicate_succ'];exact b.own
 rcases b.new with e|e
 .exact⟨ol,zb,h2,f.trans l,d,λk v=>by cases v;exact A.2 g e⟩
 .obtain⟨E,D⟩:=ie b.own rfl;have ho:ol g=none:=by
   cases q:ol g with
   |none=>rfl
   |some t=>have:=h1.lt (k:=g) (by rw[q];simp);omega
  obtain⟨h3,C⟩:=h2.NL z g E D (by omega) ho N (by omega);exact⟨_,_,h3,(f.trans l).trans C,d,λk v=>by cases v;exact br _ _ _⟩
theorem m9(w:aa)(n:Nat)(T:bi)(cs:bc)(b:w.heap.size=n):∀j u,cs.toList[j]? =some u->(w.alloc (.cells cs T)).cell? (((dq n 0):Addr).add j)=some u:=by
 subst b;exact PL (fK w _)
theorem L2{l:List α}{t:List β}{a:α}{b:β}(h:t[j]? =some b)(c:t.length=l.length):(l++[a])[j]? =l[j]?:=o5 (by have:=(ke.1 h).1;omega)
theorem Me(h:LS B w ol zb W m x ls zs)(hY:zs.length=ls.length)(N:Nat)(hQ:B<=N)(hN:N<=w.heap.size)(h0:∀k,N<=k->ol k=none)(u:Sl)(xs:a7)(E:w.ownsRow N 9 1 u.w u.n xs)(hn:u.n<=1000)(hZ:ls.length<=100000000)(hd:m.last<1000000000000):
  cl 75 #[Pt W,u.w] w (PP B N w ol W m x ls.length):=by
 obtain⟨ua,un,uc⟩:=u;simp only[Sl.w] at E hn ⊢;obtain⟨j0,hj,hB,hC,hD⟩:=sv IF;obtain⟨i0,hi,hw,hx,hy⟩:=sv qr;have HJ:=ag (ei hj (ei hB (ei hC hD)));have X:=ag (ei hi (ei hw (ei hx hy)));have HH:=ag h;have HU:=ag E;have HM:=ag (Ms w W m h.lc ⟨h.la,hd⟩);clear h E hj hB hC hD hi hw hx hy;go_enter func75,ntmps75;go_wp2_with fail;refine HM.out.mono ?_;rintro e w1 ⟨z,rfl,hF,hf⟩;obtain⟨h6,h5⟩:=HH.out.Gh (m.last+1) (by have:=HH.out.la;omega) hF hf N;have f:w1.ownsRow N 9 1 (.slice ua un uc) un xs:=dK HU.out λk J=>by
  have hg:=ar HU.out J;exact hf.block k hg.2 (λe=>HH.out.oW (by rw[<-e];exact h0 k hg.1))
 have hA:∃ol1 zb1,LS B w1 ol1 zb1 W {m with last:=m.last+1} x ls zs/\Lg N w ol w1 ol1/\∀k,Value.ownBlock (.slice ua un uc)=some k->zb1 k=some z:=by
  cases hb:Value.ownBlock (.slice ua un uc) with
  |none=>exact⟨ol,zb,h6,h5,λk J=>by cases J⟩
  |some g=>
   obtain⟨c,hc⟩:=ie f hb;have hg:=ar HU.out hb;obtain⟨P,A⟩:=h6.NL z g c hc (by omega) (h0 g hg.1) N hg.1;exact⟨_,_,P,h5.trans A,λk J=>by cases J;exact br _ _ _⟩
 obtain⟨ol1,zb1,hS,C,hH⟩:=hA;have U:=ag hS;have HL:=ag C;have HR:=ag f;have HZ:=ag hH;clear h6 h5 hf hF f hS C hH HM HU;go_wp2
 go_loopw [5] (λi wr=>∃k:Nat,k<=un/\i=Jn k/\LS B wr ol1 zb1 W {m with last:=m.last+1} x ls zs/\Lg N w ol wr ol1/\wr.ownsRow N 9 1 (.slice ua un uc) un (List.replicate k (.string z)++xs.drop k)) (λi _=>un-(intOf i).toNat)
 case atStart=>exact⟨0,kc _,rfl,U.out,HL.out,HR.out⟩
 case round=>
  obtain⟨k,J,rfl,hS,C,hr⟩:=hrel;have hp:=ag hS;have hm:=ag C;have ho:=ag hr;have H7:xs.length=un:=by have:=HR.out.1;omega
  by_cases hlt:k<un
  .obtain⟨g,H0,he,_,_⟩:=hr.form (by omega);cases he;obtain⟨cu,h8⟩:=ie hr rfl;have hR:∃v,wr.cell? (dq g k)=some v:=by
    obtain⟨a,c,P,_,_,A⟩:=ay hr;obtain⟨g',q3,_,_,q4⟩:=A (by omega);cases P;cases q3;exact⟨_,q4 k _ (fA (by simp;omega))⟩
   obtain⟨v0,d0⟩:=hR;have df:=ah h8 k;have H2:(k:Int)<(un:Int):=by omega
   have HC:=ag h8;clear hS C hr h8;go_wp2;go_roundw
   case rel=>
    obtain⟨P,A⟩:=hp.out.Rj z (λj=>j=g) (λj e=>by subst e;exact HZ.out j rfl) ((TU _ wr).aY (o:=k) (v:=.string z)) (λj c e hc=>by
     subst e;refine⟨_,TH hc,λi y hi=> ?_⟩;by_cases hz:k=i
     .subst hz;exact .inr ⟨.string z,by simp,by rw[Array.getElem?_setIfInBounds_self_of_lt (Sf.1 hi).1]⟩
     .exact .inl (by rw[Array.getElem?_setIfInBounds_ne hz];exact hi)) N
    exact⟨k+1,by omega,rfl,P,hm.out.trans A,by rw[<-M4 _ k xs (by omega)];exact M9 ho.out⟩
   case measure=>simp[intOf];omega
  .have h9:k=un:=by omega
   subst h9;have hI:Hid (QN B N w ol W m x ls.length z 0 ⟨ua,k,uc⟩ wr):=⟨ol1,zb1,_,x,ls,zs,hS,C,rfl,by omega,rfl,⟨rfl,rfl,rfl,rfl⟩,⟨by have:=hr;rw[So (by omega),Sr] at this;exact this,HZ.out⟩,by omega⟩;clear hS C hr hp hm ho;go_wp2
   go_loopw [1,6] (λl i wr=>∃k:Nat,k<=4/\i=Jn k/\∃R d S,l=.slice R d S/\QN B N w ol W m x ls.length z k ⟨R,d,S⟩ wr) (λ_ i _=>4-(intOf i).toNat)
   case atStart=>exact⟨0,by omega,rfl,ua,k,uc,rfl,hI.out⟩
   case round=>
    obtain⟨k,J,rfl,R,d,S,rfl,ol2,zb2,t,x2,ls2,zs2,hS,C,n1,n2,n3,q,H,hV⟩:=hrel;simp only at hV;by_cases hlt:k<4
    .obtain⟨⟨la,ln,lc⟩,K⟩:∃u,u=t.r 2:=⟨_,rfl⟩;obtain⟨⟨ma,Q,mc⟩,D⟩:∃u,u=t.r 3:=⟨_,rfl⟩;have c2:wr.cell? (dq W 2)=some (.slice la ln lc):=by rw[ae hS.lc];show some (Sl.w (t.r 2))=_;rw[<-K];rfl
     have hW:=ai hS.lc;have L:wr.ownsRow B 26 1 (.slice la ln lc) ln (x2 2):=by have:=hS.ro 2 (by decide);rw[<-K] at this;exact this
     have H3:ln<=100000004:=by have:=L.1;rw[hS.x2,ta] at this;omega
     have H4:Q<=100000004:=by have:=(hS.ro 3 (by decide)).1;rw[hS.x3,ta,<-D] at this;simp only[Lz] at this;omega
     have d7:B<=wr.heap.size:=Sk (RI (hS.ty W hS.oW).1 hW);have H1:N<=wr.heap.size:=ku hN C.upd.size;have U:=ag hS;have HL:=ag C;have HR:=ag L;have HC:=ag H;have hO:=ag q;have HN:=ag (ei n1 (ei n2 n3));clear hS C L H q n1 n2 n3;go_wp2_with (at_builtin;refine qw _ rfl (.tmp 28) (.tmp 30) 25 rfl B 26 j0 (.slice none 0 0) 1 24 underlying25 HJ.out.1 HJ.out.2.1 HJ.out.2.2.1 HJ.out.2.2.2 rfl (by decide) _ ln (x2 2) rfl (HR.out.alloc _) (dq wr.heap.size 0) 1 [.slice R d S] rfl rfl (RW _ _ _) (by intro u E;simp at E;subst E;rfl) (by unfold maxLen;omega) (by omega) (by simp;omega) ?_);intro g2 d2 w2 G;have b:nL (wr.alloc (.cells #[.slice R d S] 26)) B (LT 2) (Lz 2) (t.r 2).w (t.r 2).n (x2 2) [.slice R d S] g2 d2 w2:=by rw[<-K];exact G
     have V:=U.out.stay (aR _ _) (by decide) b;have e2:w2.cell? (dq W 2)=some (.slice la ln lc):=by rw[ae V];show some (Sl.w (t.r 2))=_;rw[<-K];rfl
     have e3:w2.cell? (dq W 3)=some (.slice ma Q mc):=by rw[ae V];show some (Sl.w (t.r 3))=_;rw[<-D];rfl
     have f2:=ah V 2;have hh:(w2.setCell (dq W 2) (.slice (eb g2) (ln+1) d2)).heap.size=w2.heap.size:=by simp[World.setCell]
     have H5:wr.heap.size<=w2.heap.size:=by have:=G.upd.size;simp at this;omega
     obtain⟨hP,F⟩:=U.out.push (aR _ _) 2 (by decide) [.slice R d S] g2 d2 b (w3:=w2.setCell (dq W 2) (.slice (eb g2) (ln+1) d2)) (by rw[<-K]) (ls2++[⟨R,d,S⟩]) zs2 (by rw[br,U.out.x2,s8];rfl) ((bg _ _ (by decide)).trans U.out.x3) (λj u z P A=>U.out.kp j u z (by rw[<-P,L2 A (HN.out.2.1.trans HN.out.1.symm)]) A) N (by simp;omega);have O:=U.out.N2 (aR _ _) (by decide) b (w3:=w2.setCell (dq W 2) (.slice (eb g2) (ln+1) d2)) rfl;have M:(w2.setCell (dq W 2) (.slice (eb g2) (ln+1) d2)).ownsRow B 9 1 (.slice ma Q mc) Q (x2 3):=by
      have:(w2.setCell (dq W 2) (.slice (eb g2) (ln+1) d2)).ownsRow B 9 1 (t.r 3).w (t.r 3).n (x2 3):=hP.ro 3 (by decide);rw[<-D] at this;exact this
     have Z:=ag hP;have h1:=ag F;have h3:=ag O;have h2:=ag M;clear G b V hP F O M c2 HR;go_wp2_with (at_builtin;refine qw _ rfl (.tmp 38) (.tmp 40) 26 rfl B 9 i0 (.string ⟨#[]⟩) 1 16 underlying26 X.out.1 X.out.2.1 X.out.2.2.1 X.out.2.2.2 rfl (by decide) _ Q (x2 3) rfl (h2.out.alloc _) (dq w2.heap.size 0) 1 [.string z] rfl rfl (m9 _ _ _ #[.string z] hh) (by intro u E;simp at E;subst E;rfl) (by unfold maxLen;omega) (by omega) (by simp;omega) ?_);intro g4 d4 w4 G;obtain⟨wA,hG⟩:∃wA,wA=w2.setCell (dq W 2) (.slice (eb g2) (ln+1) d2):=⟨_,rfl⟩;rw[<-hG] at G hh Z h1 h3 h2;have b:nL (wA.alloc (.cells #[.string z] 9)) B (LT 3) (Lz 3) (t.r 3).w (t.r 3).n (x2 3) [.string z] g4 d4 w4:=by rw[<-D];exact G
     have h7:=Z.out.stay (aR _ _) (i:=3) (by decide) b;have e4:w4.cell? (dq W 3)=some (.slice ma Q mc):=by rw[ae h7];show some (Sl.w (t.r 3))=_;rw[<-D];rfl
     have f4:=ah h7 3;have hX:(w4.setCell (dq W 3) (.slice (eb g4) (Q+1) d4)).heap.size=w4.heap.size:=by simp[World.setCell]
     have H6:w2.heap.size<=w4.heap.size:=by have:=G.upd.size;simp at this;omega
     have h4:=HC.out.same (λk J=>h3.out k z J);have hE:∀(j:Nat) u z',(ls2++[⟨R,d,S⟩])[j]? =some u->(zs2++[z])[j]? =some z'->Lk wA zb2 u z':=λj u z' P A=>by
      have hU:zs2.length=ls2.length:=HN.out.2.1.trans HN.out.1.symm;by_cases hj:j<zs2.length
      .rw[o5 hj] at A;exact Z.out.kp j u z' P A
      .have hT:j=zs2.length:=by
        have:=(ke.1 A).1;simp at this;omega
       subst hT;rw[SU] at A;rw[hU,SU] at P;cases P;cases A;exact h4.lk (by show d<=_;omega)
     obtain⟨hP,F⟩:=Z.out.push (aR _ _) 3 (by decide) [.string z] g4 d4 b (w3:=w4.setCell (dq W 3) (.slice (eb g4) (Q+1) d4)) (by rw[show Q=(t.r 3).n by rw[<-D]];rfl) (ls2++[⟨R,d,S⟩]) (zs2++[z]) ((bg _ _ (by decide)).trans Z.out.x2) (by rw[br,Z.out.x3,s8];rfl) hE N (by simp;omega);have O:=Z.out.N2 (aR _ _) (i:=3) (by decide) b (w3:=w4.setCell (dq W 3) (.slice (eb g4) (Q+1) d4)) rfl;have hq:=h4.same (λk J=>O k z J);have hK:=ag hP;have hJ:=ag ((HL.out.trans h1.out).trans F);have hl:=ag hq;clear G b h7 hP F O h4 hE Z h1 HL U h3 h2 HC hq hG e2 e3 f2 hh;go_wp2_with (at_builtin;refine qw _ rfl (.tmp 44) (.tmp 46) 26 rfl N 9 i0 (.string ⟨#[]⟩) 1 16 underlying26 X.out.1 X.out.2.1 X.out.2.2.1 X.out.2.2.2 rfl (by decide) _ d (List.replicate d (.string z)) rfl (hl.out.1.alloc _) (dq w4.heap.size 0) 1 [.string z] rfl rfl (m9 _ _ _ #[.string z] hX) (by intro u E;simp at E;subst E;rfl) (by unfold maxLen;omega) (by omega) (by simp;omega) ?_);intro g6 d6 w6 G;obtain⟨ol6,zb6,hv,ht,hs⟩:=hK.out.more (aR _ _) hl.out G hQ (by simp;omega);have hM:Hid (QN B N w ol W m x ls.length z (k+1) ⟨eb g6,d+1,d6⟩ w6):=⟨_,_,_,_,_,_,hv,hJ.out.trans ht,by rw[ga,HN.out.1];rfl,by rw[ga,HN.out.2.1];rfl,HN.out.2.2,hO.out,hs,by show d+1<=_;omega⟩;clear G hv ht hs;go_wp2;go_roundw
     case rel=>exact⟨k+1,by omega,rfl,eb g6,d+1,d6,rfl,hM.out⟩
     case measure=>simp[intOf];omega
    .have h9:k=4:=by omega
     subst h9;have HE:Hid (PP B N w ol W m x ls.length (.returned (.tuple #[])) wr):=⟨rfl,ol2,zb2,t,x2,ls2,zs2,hS,C,n1,n2,n3,q⟩;clear hS C H q n1 n2 n3;go_wp2;refine TT ?_;exact HE.out
def GJ(w:aa)(n:Nat)(e:bo)(w':aa):Prop:=∃k:Nat,k<n/\e=.returned (Jn k)/\w'=w
theorem Jr(w:aa)(c n:Nat)(d:0<n)(h:c<=9223372036854775807):cl 47 #[Jn c,Jn n] w (GJ w n):=by
 have f:¬((c:Int)<0):=by omega
 have h1:¬((n:Int)=0):=by omega
 have b:Hid (GJ w n (.returned (Jn ((c:Int)%(n:Int)))) w):=⟨c%n,Nat.mod_lt _ d,by simp,rfl⟩;go_enter func47,ntmps47;go_wp2;go_ret;exact b.out
theorem Jq(w:aa)(c:Int)(d n:Nat)(q:0<n)(t:c<0)(f: -(c+1)=(d:Int))(v: -9223372036854775808<=c):cl 47 #[Jn c,Jn n] w (GJ w n):=by
 have h1:¬((n:Int)=0):=by omega
 have l:c= -(d:Int)-1:=by omega
 have h:(d:Int)<=9223372036854775807:=by omega
 subst l;have b:Hid (GJ w n (.returned (Jn ((d:Int)%(n:Int)))) w):=⟨d%n,Nat.mod_lt _ q,by simp,rfl⟩;clear f;go_enter func47,ntmps47;go_wp2;go_ret;have:=b.out;simpa using this
theorem D0(w:aa)(c:Int)(n:Nat)(b:0<n)(f: -9223372036854775808<=c)(l:c<=9223372036854775807):cl 47 #[Jn c,Jn n] w (GJ w n):=by
 by_cases h:c<0
 .exact Jq w c (-(c+1)).toNat n b h (by omega) f
 .obtain⟨d,rfl⟩:∃d:Nat,c=d:=⟨c.toNat,by omega⟩;exact Jr w d n b (by omega)
variable {I:aa} {B:Nat} {w w':aa} {Y Y':a9} {ow:Nat->Nat->Option Nat} {zb:Nat->Option ao} {W:Nat} {m:Lc} {x:Nat->a7} {ls:List Sl} {zs:List ao}
structure N4(B:Nat)(w:aa)(Y:a9)(ow:Nat->Nat->Option Nat):Prop where
 ox:∀i k t,ow i k=some t->Y k
 xt:mu w B Y
 ap:∀i j,i≠j->fq (ow i) (ow j)
theorem N4.step(h:N4 B w Y ow)(l:Gw Y (ow i) w Y' o w')(ho:∀k t,o k=some t->Y' k)(C:mu w' B Y'):N4 B w' Y' (iH ow i o):=by
 refine⟨λj k t f=> ?_,C,λa b d=> ?_⟩
 .by_cases e:j=i
  .subst e;rw[br] at f;exact ho k t f
  .rw[bg _ _ e] at f;have y:=h.ox j k t f;obtain⟨_,c,T,A,_⟩:=h.xt k y;exact l.x1 k (ai A) y (h.ap j i e k (by rw[f];simp))
 .by_cases q:a=i
  .subst q;rw[br,bg _ _ (S6 d)];exact(h.ap a b d).gw l h.xt (h.ox b)
  .by_cases v:b=i
   .subst v;rw[br,bg _ _ d];exact((h.ap b a (S6 d)).gw l h.xt (h.ox a)).symm
   .rw[bg _ _ q,bg _ _ v];exact h.ap a b d
structure Lv(I:aa)(B:Nat)(w:aa):Prop where
 mx:MaxOk w
 tb:Tab B w
 er:ErrT w
 b1:3<B
 b2:0<B
 hB:B<=w.heap.size
 bb:Below B I w
theorem Lv.below(h:Lv I B w)(hb:Below B w w'):Lv I B w':=⟨h.mx.below hb h.b1,h.tb.below hb,h.er.below hb h.b2,h.b1,h.b2,ku h.hB hb.size,h.bb.trans hb⟩
theorem Gw.bel(b:Gw Y o w Y' o' w')(ho:∀k t,o k=some t->Y k)(d:mu w B Y)(hB:B<=w.heap.size):Below B w w':=b.upd.below hB λk c=>by
 cases e:o k with
 |none=>exact absurd e c
 |some t=>exact(d k (ho k t e)).1
theorem Gw.sW(c:Gw Y o w Y' o' w')(ho:∀k t,o k=some t->Y k):Gn w Y w' Y':=λb hb d=>⟨λe=>d (c.x2 b hb e),c.upd.block b hb λe=>by
 cases q:o b with
 |none=>exact e q
 |some t=>exact d (ho b t q)⟩
def Pv(c:Nat×Sl):a7:=[.pointer (some ⟨c.1,0,none⟩),c.2.w]
def QC(p:Pm):a7:=[.pointer (some ⟨p.L,0,none⟩),.pointer (some ⟨p.D,0,none⟩)]
structure LW(I:aa)(B:Nat)(w:aa)(Y:a9)(ow:Nat->Nat->Option Nat)(h:Nat->Option ao)(W:Nat)(m:Lc)(x:Nat->a7)(ls:List Sl)(e:List ao)(a:List (Nat×Sl))(d:List Pm)(g:Nat->RR)(f:Nat->jc):Prop where
 fam:N4 B w Y ow
 lv:Lv I B w
 st:LS B w (ow 0) h W m x ls e
 len:e.length=ls.length
 xc:x 0=a.flatMap Pv
 xm:x 1=d.flatMap QC
 cd:∀c∈a,∃b z vs fx,CB w Y c.1 c.2 b z vs fx
 mc:∀(j:Nat) p,d[j]? =some p->Tn B w Y (ow (2 *j+1)) (ow (2 *j+2)) p (g j) (f j)
 no:∀i,2 *d.length<i->ow i=λ_=>none
variable {cds:List (Nat×Sl)} {ps:List Pm} {rs:Nat->RR} {qs:Nat->jc}
structure LO(I:aa)(B:Nat)(w:aa)(Y:a9)(ow:Nat->Nat->Option Nat)(g:Nat->Option ao)(W:Nat)(m:Lc)(x:Nat->a7)(ls:List Sl)(h:List ao)(a:List (Nat×Sl))(d:List Pm)(f:Nat->RR)(e:Nat->jc)(i:Nat):Prop where
 fam:N4 B w Y ow
 lv:Lv I B w
 st:i≠0->LS B w (ow 0) g W m x ls h
 cd:∀c∈a,∃b z vs fx,CB w Y c.1 c.2 b z vs fx
 mc:∀(j:Nat) p,d[j]? =some p->i≠2 *j+1->i≠2 *j+2->Tn B w Y (ow (2 *j+1)) (ow (2 *j+2)) p (f j) (e j)
theorem LO.step(h:LO I B w Y ow zb W m x ls zs cds ps rs qs i0)(D:2 *ps.length<i0)(f:Gw Y (ow i) w Y' o w')(ho:∀k t,o k=some t->Y' k)(A:mu w' B Y'):LO I B w' Y' (iH ow i o) zb W m x ls zs cds ps rs qs i:=by
 have v:KI w w':=RS.Mg (K:=0) h.fam.xt (h.fam.ox i) f;have d:=h.fam.ap;have l:=h.st (by omega);refine⟨h.fam.step f ho A,h.lv.below (f.bel (h.fam.ox i) h.fam.xt h.lv.hB),λhi=> ?_,λc C=> ?_,λj p y h1 h2=> ?_⟩
 .rw[bg _ _ (S6 hi)];exact l.other λk v=>f.upd.block k (l.lt v) (λe=>e (d 0 i (S6 hi) k v))
 .obtain⟨b,z,vs,fx,q⟩:=h.cd c C;exact⟨b,z,vs,fx,q.ak v f.upd.size (f.sW (h.fam.ox i))⟩
 .have:=(ke.1 y).1;rw[bg _ _ (S6 h1),bg _ _ (S6 h2)];exact(h.mc j p y (by omega) (by omega)).other f (d i _ h1) (d i _ h2) (h.fam.ox i) A
theorem LW.lo(h:LW I B w Y ow zb W m x ls zs cds ps rs qs):LO I B w Y ow zb W m x ls zs cds ps rs qs (2 *ps.length+1):=⟨h.fam,h.lv,λ_=>h.st,h.cd,λj p b _ _=>h.mc j p b⟩
theorem LW.step(h:LW I B w Y ow zb W m x ls zs cds ps rs qs)(b:Gw Y (ow i) w Y' o w')(ho:∀k t,o k=some t->Y' k)(c:mu w' B Y'):LO I B w' Y' (iH ow i o) zb W m x ls zs cds ps rs qs i:=h.lo.step (by omega) b ho c
theorem LW.below(h:LW I B w Y ow zb W m x ls zs cds ps rs qs)(hb:Below w.heap.size w w'):LW I B w' Y ow zb W m x ls zs cds ps rs qs:=by
 have d:Gw Y (ow (2 *ps.length+1)) w Y (ow (2 *ps.length+1)) w':=Gw.aj hb;have l:mu w' B Y:=λk f=>by
  obtain⟨h1,c,T,h2,h3⟩:=h.fam.xt k f;exact⟨h1,c,T,(hb.block k (ai h2)).trans h2,h3⟩
 have q:=h.step d (h.fam.ox _) l;have e:iH ow (2 *ps.length+1) (ow (2 *ps.length+1))=ow:=by
  funext j
  by_cases e:j=2 *ps.length+1
  .subst e;exact br _ _ _
  .exact bg _ _ e
 rw[e] at q;refine⟨q.fam,q.lv,q.st (by omega),h.len,h.xc,h.xm,q.cd,λj p b=> ?_,h.no⟩;have:=(ke.1 b).1;exact q.mc j p b (by omega) (by omega)
theorem LO.own(h:LO I B w Y ow zb W m x ls zs cds ps rs qs i0)(D:2 *ps.length<i0){H:Lc}(hS:LS B w' o zb' W H x' ls' zs')(d:Lg w.heap.size w (ow 0) w' o):∃Y' ow',LO I B w' Y' ow' zb W m x ls zs cds ps rs qs 0/\ow' 0=o/\(∀i,i≠0->ow' i=ow i)/\Gw Y (ow 0) w Y' o w':=by
 have hlt:∀k,Y k->k<w.heap.size:=λk b=>by
  obtain⟨_,c,T,E,_⟩:=h.fam.xt k b;exact ai E
 have l:Gw Y (ow 0) w (λk=>Y k\/o k≠none) o w':=⟨⟨d.upd.os,d.upd.tape,d.upd.output,d.upd.size,λk b F=>d.upd.block k b (λe=>e.elim F (λq=>by omega))⟩,λk _ b _=>.inl b,λk b f=>by
  rcases f with f|f
  .exact f
  .cases e:ow 0 k with
   |none=>exact absurd (d.old k b e) f
   |some t=>exact h.fam.ox 0 k t e,λk b e=>d.old k b e⟩
 have G:mu w' B (λk=>Y k\/o k≠none):=λk b=>by
  have key:o k≠none->B<=k/\∃c T,w'.heap[k]? =some (Obj.cells c T (0,0))/\MT.contains T=true:=λe=>by
   obtain⟨v,c,T,y,A⟩:=hS.ty k e;refine⟨v,c,T,y,?_⟩;have:∀T∈QO,MT.contains T=true:=by decide
   exact this T (Su.1 A)
  by_cases e:o k=none
  .rcases b with b|b
   .obtain⟨v,c,T,y,A⟩:=h.fam.xt k b;have C:ow 0 k=none:=by
     cases q:ow 0 k with
     |none=>rfl
     |some t=>exact absurd e (d.on k (by rw[q];simp))
    exact⟨v,c,T,(l.upd.block k (hlt k b) (λn=>n C)).trans y,A⟩
   .exact absurd e b
  .exact key e
 exact⟨_,_,h.step D l (λk t e=>.inr (by rw[e];simp)) G,br _ _ _,λi hi=>bg _ _ hi,l⟩
theorem LW.own(h:LW I B w Y ow zb W m x ls zs cds ps rs qs){c:Lc}(hS:LS B w' o zb' W c x' ls' zs')(b:Lg w.heap.size w (ow 0) w' o):∃Y' ow',LO I B w' Y' ow' zb W m x ls zs cds ps rs qs 0/\ow' 0=o/\(∀i,i≠0->ow' i=ow i)/\Gw Y (ow 0) w Y' o w':=h.lo.own (by omega) hS b
variable {I:aa} {B:Nat} {w w':aa} {Y Y':a9} {ow:Nat->Nat->Option Nat} {zb:Nat->Option ao} {W:Nat} {m:Lc} {x:Nat->a7} {ls:List Sl} {zs:List ao} {cds:List (Nat×Sl)} {ps:List Pm} {rs:Nat->RR} {qs:Nat->jc}
theorem Kx(f:Nat->α)(i:Nat):iH f i (f i)=f:=by
 funext j
 by_cases e:j=i
 .subst e;exact br _ _ _
 .exact bg _ _ e
theorem N4.lt(h:N4 B w Y ow)(d:Y k):k<w.heap.size:=by
 obtain⟨_,c,T,b,_⟩:=h.xt k d;exact ai b
theorem Gw.Pj(b:Gw Y o w Y' o' w')(ho:∀k t,o k=some t->Y k):aB Y w w':=b.upd.mono λk c=>by
 cases e:o k with
 |none=>exact absurd e c
 |some t=>exact ho k t e
theorem LW.I3(h:LW I B w Y ow zb W m x ls zs cds ps rs qs)(d:ps[j]? =some p)(hi:i=2 *j+1\/i=2 *j+2)(l:Gw Y (ow i) w Y' o w')(ho:∀k t,o k=some t->Y' k)(y:mu w' B Y'){q:jc}(f:Tn B w' Y' (iH ow i o (2 *j+1)) (iH ow i o (2 *j+2)) p r q):LW I B w' Y' (iH ow i o) zb W m x ls zs cds ps (iH rs j r) (iH qs j q):=by
 have b:=h.step l ho y;have v:=(ke.1 d).1;refine⟨b.fam,b.lv,b.st (by omega),h.len,h.xc,h.xm,b.cd,λa A c=> ?_,λa c=> ?_⟩
 .by_cases e:a=j
  .subst e;rw[d] at c;cases c;rw[br,br];exact f
  .rw[bg _ _ e,bg _ _ e];exact b.mc a A c (by omega) (by omega)
 .rw[bg _ _ (by omega)];exact h.no a c
def Rh(I:aa)(B:Nat)(w:aa)(Y:a9)(h:Nat->Option ao)(W:Nat)(m:Lc)(x:Nat->a7)(ls:List Sl)(i:List ao)(c:List (Nat×Sl))(e:List Pm)(g:Nat->RR)(f:Nat->jc)(a:Nat)(b:Int)(u v:al)(w':aa):Prop:=u=Jn (a:Nat)/\v=Jn b/\aB Y w w'/\∃d ow',(∀k,k<w.heap.size->d k->Y k)/\LW I B w' d ow' h W m x ls i c e g f
def Ri(I:aa)(B:Nat)(w:aa)(Y:a9)(i:Nat->Option ao)(W:Nat)(m:Lc)(x:Nat->a7)(ls:List Sl)(j:List ao)(c:List (Nat×Sl))(f:List Pm)(h:Nat->RR)(g:Nat->jc)(a:Nat)(b:Int)(e:bo)(w':aa):Prop:=e=.returned (.tuple #[Jn (a:Nat),Jn b])/\aB Y w w'/\∃d ow',(∀k,k<w.heap.size->d k->Y k)/\LW I B w' d ow' i W m x ls j c f h g
theorem Qv(h:LW I B w Y ow zb W m x ls zs cds ps rs qs)(d:ps[j]? =some p)(l:n<=100000)(f:QA (dp p.z p.vs) (rs j) n a r):cl 27 #[Pt p.L,Jn n] w (Ex (Rh I B w Y zb W m x ls zs cds ps (iH rs j r) qs a 0)):=by
 refine(Rb (h.mc j p d) h.lv.er h.lv.b2 l f).mono ?_;rintro e w1 ⟨_,_,rfl,rfl,rfl,Y',o,c,b,t⟩;have:=h.I3 d (.inl rfl) b c.mw.own.1 t (r:=r) (q:=qs j) (by rw[br,bg _ _ (by omega)];exact c);rw[Kx] at this;exact⟨_,_,rfl,rfl,rfl,b.Pj (h.fam.ox _),Y',_,b.x2,this⟩
theorem Qx(h:LW I B w Y ow zb W m x ls zs cds ps rs qs)(f:ps[j]? =some p)(t:n<=100000){q:jc}(l:K0 p.z p.vs n (a,q) (qs j)):cl 72 #[Pt p.D,Jn n] w (Ri I B w Y zb W m x ls zs cds ps rs (iH qs j q) a 0):=by
 refine(Rc (h.mc j p f) t l).mono ?_;rintro e w1 ⟨rfl,Y',o,d,b,y⟩;obtain⟨c,v⟩:=d.rm;have:=h.I3 f (.inr rfl) b v.own.1 y (r:=rs j) (q:=q) (by rw[br,bg _ _ (by omega)];exact d);rw[Kx] at this;exact⟨rfl,b.Pj (h.fam.ox _),Y',_,b.x2,this⟩
theorem Hd(h:LW I B w Y ow zb W m x ls zs cds ps rs qs)(t:∀(j:Nat) p,ps[j]? =some p->BQ p.z p.vs (rs j) (qs j))(f:ps[j]? =some p)(n:Int):∃a b c l,(∀(j:Nat) p,ps[j]? =some p->BQ p.z p.vs (c j) (l j))/\cl 27 #[Pt p.L,Jn n] w (Ex (Rh I B w Y zb W m x ls zs cds ps c qs a b))/\∀w1 d ow1,LW I B w1 d ow1 zb W m x ls zs cds ps c qs->cl 72 #[Pt p.D,Jn n] w1 (Ri I B w1 d zb W m x ls zs cds ps c l a b):=by
 have v:=h.mc j p f;by_cases A:n<0\/100000<n
 .refine⟨0,11,rs,qs,t,DR w p.L p.M n _ v.lm (ag ((Nf w p.M n A).mono ?_)),λw1 d ow1 h1=>(JR w1 p.D n A).mono ?_⟩
  .rintro e w1 ⟨rfl,rfl⟩;exact⟨_,_,rfl,rfl,rfl,TU _ _,Y,ow,λ_ _ q=>q,h⟩
  .rintro e w2 ⟨rfl,rfl⟩;exact⟨rfl,TU _ _,d,ow1,λ_ _ q=>q,h1⟩
 .obtain⟨k,rfl⟩:∃k:Nat,n=k:=⟨n.toNat,by omega⟩;have y:k<=100000:=by omega
  obtain⟨a,r,q,C,E,F⟩:=P2 v.gz k (t j p f);refine⟨a,0,iH rs j r,iH qs j q,λi G hi=> ?_,Qv h f y C,λw1 d ow1 h1=>Qx h1 f y E⟩;by_cases e:i=j
  .subst e;rw[f] at hi;cases hi;rw[br,br];exact F
  .rw[bg _ _ e,bg _ _ e];exact t i G hi
end Go.Proofs.YtlobegpjenabaaaGreatDoor
