import Derived.Test.YtlobegpjenabaaaGreatDoorT01
import Derived.Deep.RegionHeld3
import Derived.Deep.RegionWith
import Derived.Deep.DrawnRows
import Derived.Deep.DeepCutAuto
namespace Go.Proofs.YtlobegpjenabaaaGreatDoor
open Go.RowKit Tryz
set_option linter.unusedSimpArgs false
set_option linter.unusedVariables false
set_option linter.defProp false
set_option maxRecDepth 100000
set_option maxHeartbeats 4000000
def ei:=@And.intro
def fK:=@heap_alloc_new
def ga:=@List.length_append
def ke:=@List.getElem?_eq_some_iff
def nl:=@wpList_append_lies
def oh:=@World.ownsRow_nil
def pk:=@List.getD_eq_getElem?_getD
def sv:=@info_parts
def xp:=@List.take_length
def Bk:=@List.getElem?_take
def PL:=@World.news_of_block
def RK:=@List.drop_length
def Sd:=@Nat.eq_zero_or_pos
def SC:=@bne_iff_ne
variable {T:bi} {o x o':Obj} {base e n B k j b' m lo' C p op N:Nat} {xs:a7} {R:bc->D->Prop} {a0 a1 a2 a3 a4 b0 b1 b2 b3 b4 v0 v1 v2 v3 v4 v':al} {S:a9} {w' wr w1 W1 W W' w2 w3:aa} {α:Type} {css:List bc} {ds acc:List D} {z cs:bc} {g:D} {k1 m1 k2 m2 i a k0 m0 i' e' a':Int} {s1 s2 s s0:ao} {p1 p2 p0:a8} {r:xX (D×Nat)} {fn:Func}
def cur(s:ao)(i e a:Int):Obj:=.cells #[.string s,.int .i64 i,.int .i64 e,.int .i64 a] 154 (0,0)
theorem ae{w:aa}{b:Nat}{c:bc}{fz:Nat×Nat}(h:w.heap[b]? =some (Obj.cells c T fz))(o:Nat):w.cell? (dq b o)=c[o]?:=by simp[World.cell?,h]
theorem aR(w:aa)(o:Obj):Below w.heap.size w (w.alloc o):=(fL _ _).alloc (ew _) _
theorem kd{w:aa}{b:Nat}{c:bc}{f:Nat×Nat}(h:w.heap[b]? =some (Obj.cells c T f))(i:Nat)(v:al)(e:c[i]? =some v:=by rfl):Cl w b i v:=(ae h i).trans e
theorem ah{w:aa}{b:Nat}{c:bc}(h:w.heap[b]? =some (.cells c T))(o:Nat):w.frozen? (dq b o)=false:=by simp[World.frozen?,h]
theorem TH{w:aa}{b o:Nat}{c:bc}{fz:Nat×Nat}{v:al}(h:w.heap[b]? =some (Obj.cells c T fz)):(w.setCell (dq b o) v).heap[b]? =some (Obj.cells (c.setIfInBounds o v) T fz):=by
 simp only[World.setCell,Array.getElem?_modify];simp[h]
theorem aw{w:aa}{b:Nat}(h:w.heap[b]? =some x):(w.alloc o).heap[b]? =some x:=by
 rw[tm _ _ _ (ai h)];exact h
theorem gD(s:ao)(i d a0 e a:Int)(C:Nat)(w:aa)(b:w.heap[C]? =some (cur s i d a0)):
  cl 104 #[Pt C,Jn e,Jn a] w λr w'=>
   r=.returned (.agg (az 0 0 aZ none))/\w'.heap[C]? =some (cur s i e a)/\aB (λk=>k=C) w w':=by
 have c2:=ae b 2;have c3:=ae b 3;have f:=ah b 2;have h:=ah b 3;simp at c2 c3;have l:=ai b;have c:=ag b;clear b;go_enter func104,ntmps104;go_wp2;refine ff (v:=.agg #[Jn 0,Jn 0,.string aZ,.pointer none,.pointer none]) (by simp[results,results104,go_sem,aZ]) rfl ⟨rfl,?_,?_⟩
 .refine aw ?_;exact TH (TH c.out)
 .exact aB.alloc (aB.setCell (aB.setCell (TU (λk=>k=C) w) (dq C 2) _ (λ_=>rfl)) (dq C 3) _ (λ_=>rfl)) _
def dl(B:Nat)(w:aa)(v:al)(a:List bc):Prop:=w.ownsRow B 96 5 v a.length (flat a)
theorem db{w:aa}{size:Nat}{v:al}(h:w.ownsRow base e size v n xs)(y:0<n):∃g b,v=.slice (eb g) n b/\base<=g/\g<w.heap.size/\n<=b/\b<=maxLen/\∀(j:Nat) u,xs[j]? =some u->w.cell? ⟨g,j,none⟩=some u:=by
 obtain⟨A,h⟩:=h;rcases h with⟨_,t⟩|⟨g,b,q,l,hb,d,h1,h2,h3,f⟩
 .omega
 .refine⟨g,b,l,hb,ai d,h1,h2,λj u c=> ?_⟩;rw[ae d];rw[<-f] at c;rw[Bk] at c;split at c
  .simpa using c
  .cases c
theorem ay{w:aa}{size:Nat}{v:al}(h:w.ownsRow base e size v n xs):∃a b,v=.slice a n b/\n<=b/\b<=maxLen/\(0<n->∃g,a=eb g/\base<=g/\g<w.heap.size/\∀(j:Nat) u,xs[j]? =some u->Cl w g j u):=by
 rcases Sd n with f|hp
 .subst f;rcases h.2 with⟨c,_⟩|⟨g,b,l,c,hb,d,h1,h2,h3,q⟩
  .exact⟨none,0,c,ew _,kc _,λh=>absurd h (by omega)⟩
  .exact⟨_,b,c,h1,h2,λh=>absurd h (by omega)⟩
 .obtain⟨g,b,c,hb,d,h1,h2,h3⟩:=db h hp;exact⟨_,b,c,h1,h2,λ_=>⟨g,rfl,hb,d,h3⟩⟩
theorem dd.form{w:aa}:∀{l:List D} {cs:bc},dd w R cs l->∃k m s p,cs=az k m s p
 |[],cs,h=>⟨_,_,_,_,h⟩
 |_::_,cs,h=>by obtain⟨b,c1,c2,e,_⟩:=h;exact⟨_,_,_,_,e⟩
def dW(w:aa)(B:Nat)(a v1 b c d:al):aa:=((((w.setCell ⟨B,0,none⟩ a).setCell ⟨B,1,none⟩ v1).setCell ⟨B,2,none⟩ b).setCell ⟨B,3,none⟩ c).setCell ⟨B,4,none⟩ d
theorem bA{w:aa}{fz:Nat×Nat}(v0 v1 v2 v3 v4:al)(h:w.heap[B]? =some (Obj.cells #[a0,a1,a2,a3,a4] T fz)):
  (dW w B v0 v1 v2 v3 v4).heap[B]? =some (Obj.cells #[v0,v1,v2,v3,v4] T fz):=by
 have:=TH (o:=4) (v:=v4) (TH (o:=3) (v:=v3) (TH (o:=2) (v:=v2) (TH (o:=1) (v:=v1) (TH (o:=0) (v:=v0) h))));unfold dW;simpa using this
theorem cU(w:aa)(B:Nat)(v0 v1 v2 v3 v4:al):aB (λk=>k=B) w (dW w B v0 v1 v2 v3 v4):=
 aB.setCell (aB.setCell (aB.setCell (aB.setCell (aB.setCell (TU (λk=>k=B) w) (dq B 0) v0 (λ_=>rfl)) (dq B 1) v1 (λ_=>rfl)) (dq B 2) v2 (λ_=>rfl)) (dq B 3) v3 (λ_=>rfl)) (dq B 4) v4 (λ_=>rfl)
theorem uZ(w:aa)(B:Nat)(v0 v1 v2 v3 v4:al):(dW w B v0 v1 v2 v3 v4).heap.size=w.heap.size:=by simp[dW,World.setCell]
theorem aB.at{w:aa}(h:aB S w w')(b:w.heap[k]? =some o)(c:¬S k):w'.heap[k]? =some o:=by rw[h.block k (ai b) c];exact b
theorem TM(l:List α)(k:Nat)(h:k<l.length):l.drop k=l[k]::l.drop (k+1):=K1 h
theorem list_round{w:aa}{z:Obj}(E:j<ds.length)(hR:wr.heap[w.heap.size]? =some z)(v:wr.heap[w.heap.size+1]? =some (Obj.cells #[a0,a1,a2,a3,a4] 96 (0,0)))(l:dd wr (RV wr n) #[a0,a1,a2,a3,a4] (ds.drop (j+1)))(hb:Below w.heap.size w wr)(G:w.heap.size+2<=wr.heap.size)(D:RV w n #[b0,b1,b2,b3,b4] ds[j])(q:css[j]? =some #[b0,b1,b2,b3,b4])(F:∀lo,ko w lo (css.drop (j+1)) w.heap.size->Gp wr lo wr.heap.size #[a0,a1,a2,a3,a4])(W':aa)(y:W'=((dW wr (w.heap.size+1) (Jn 5) (Jn 0) (.string ⟨#[]⟩) (Pt wr.heap.size) (.pointer none)).alloc (.cells #[b0,b1,b2,b3,b4,a0,a1,a2,a3,a4] 162)).drew):
  W'.heap[w.heap.size]? =some z/\(∃c,W'.heap[w.heap.size+1]? =some (Obj.cells c 96 (0,0))/\c.size=5/\dd W' (RV W' n) c (ds.drop j)/\∀lo,ko w lo (css.drop j) w.heap.size->Gp W' lo W'.heap.size c)/\Below w.heap.size w W'/\w.heap.size+2<=W'.heap.size:=by
 have u:W'.heap=((dW wr (w.heap.size+1) (Jn 5) (Jn 0) (.string ⟨#[]⟩) (Pt wr.heap.size) (.pointer none)).alloc (.cells #[b0,b1,b2,b3,b4,a0,a1,a2,a3,a4] 162)).heap:=by rw[y];rfl
 have d:aB (λk=>k=w.heap.size+1) wr W':=by rw[y];exact((cU _ _ _ _ _ _ _).alloc _).drew
 have b:aC 162 wr W':=T1 d (by intro k c b;subst b;rw[v];simp);have f:W'.heap[wr.heap.size]? =some (.cells #[b0,b1,b2,b3,b4,a0,a1,a2,a3,a4] 162):=by
  have A:=fK (dW wr (w.heap.size+1) (Jn 5) (Jn 0) (.string ⟨#[]⟩) (Pt wr.heap.size) (.pointer none)) (.cells #[b0,b1,b2,b3,b4,a0,a1,a2,a3,a4] 162);rw[uZ] at A;rw[u];exact A
 refine⟨d.at hR (by omega),⟨#[Jn 5,Jn 0,.string ⟨#[]⟩,Pt wr.heap.size,.pointer none],?_,rfl,?_,λlo h=> ?_⟩,(hb.trans (d.below (by omega) (by intro k b;omega))),by have:=d.size;omega⟩
 .rw[u];exact aw (bA _ _ _ _ _ v)
 .rw[TM ds j E];refine⟨wr.heap.size,#[b0,b1,b2,b3,b4],#[a0,a1,a2,a3,a4],rfl,f,rfl,rfl,RV.ak ((TX hb).trans b) _ _ _ D,dd.ak b (RV.ak b n) _ _ l⟩
 .obtain⟨t,e⟩:=ke.1 q;rw[K1 t,e] at h;obtain⟨m,h1,h2⟩:=h;exact .pair lo m wr.heap.size _ _ #[b0,b1,b2,b3,b4] #[a0,a1,a2,a3,a4] ⟨rfl,f,rfl⟩ (h1.ak (qg.ak ((TX hb).trans b))) ((F m h2).ak (qg.ak b)) (ai f)
theorem rX{w:aa}{c:bc}(hR:wr.heap[w.heap.size]? =some (Obj.cells z 96 (0,0)))(f:dd wr (RV wr n) c (ds.drop 0))(hb:Below w.heap.size w wr)(d:ds.length<=1000)(css:List bc)(q:∀lo,ko w lo (css.drop 0) w.heap.size->Gp wr lo wr.heap.size c):
  RV (dW wr w.heap.size v0 v1 v2 v3 v4) (n+1) c (.agg ds)/\Below w.heap.size w (dW wr w.heap.size v0 v1 v2 v3 v4)/\∀lo,ko w lo css w.heap.size->Gp (dW wr w.heap.size v0 v1 v2 v3 v4) lo (dW wr w.heap.size v0 v1 v2 v3 v4).heap.size c:=by
 have l:=cU wr w.heap.size v0 v1 v2 v3 v4;have b:aC 162 wr (dW wr w.heap.size v0 v1 v2 v3 v4):=T1 l (by intro k c b;subst b;rw[hR];simp);exact⟨⟨d,dd.ak b (RV.ak b n) _ _ f⟩,hb.trans (l.below hb.size (by intro k b;omega)),λlo h=>((q lo h).ak (qg.ak b)).hi l.size⟩
theorem rW(n:Nat)(css:List bc)(ds:List D)(v:al)(w:aa)(B:Nat)(M:dl B w v css)(H:dT w n css ds)(t:ds.length<=1000):
  cl 106 #[v] w λe w'=>∃cs,cs.size=5/\e=.returned (.agg cs)/\RV w' (n+1) cs (.agg ds)/\Below w.heap.size w w'/\∀lo,ko w lo css w.heap.size->Gp w' lo w'.heap.size cs:=by
 have hl:=H.length;have h0:Hid (∀lo,ko w lo (css.drop ds.length) w.heap.size->lo<=w.heap.size):=λlo h=>by rw[<-hl,RK] at h;exact h
 .obtain⟨ad,h5,rfl,h6,h7,d⟩:=ay M;rw[hl] at *;have y:=ag d;clear d;go_enter func106,ntmps106;go_wp2;have P:((w.alloc (.cells #[Jn 0,Jn 0,.string ⟨#[]⟩,.pointer none,.pointer none] 96)).alloc (.cells #[Jn 4,Jn 0,.string ⟨#[]⟩,.pointer none,.pointer none] 96)).heap.size=w.heap.size+2:=by simp
  go_loopw [4] (λi wr=>∃k:Nat,k<=ds.length/\i=Jn ((k:Int)-1)/\wr.heap[w.heap.size]? =some (.cells #[Jn 0,Jn 0,.string ⟨#[]⟩,.pointer none,.pointer none] 96 (0,0))/\
    (∃c,wr.heap[w.heap.size+1]? =some (.cells c 96 (0,0))/\c.size=5/\dd wr (RV wr n) c (ds.drop k)/\∀lo,ko w lo (css.drop k) w.heap.size->Gp wr lo wr.heap.size c)/\Below w.heap.size w wr/\w.heap.size+2<=wr.heap.size)
   (λi _=>(intOf i+1).toNat)
  case atStart=>
   refine⟨ds.length,ew _,rfl,?_,⟨_,?_,rfl,by rw[RK];rfl,λlo h=> ?_⟩,?_,by rw[P];omega⟩
   .refine aw (fK _ _)
   .have:=fK (w.alloc (.cells #[Jn 0,Jn 0,.string ⟨#[]⟩,.pointer none,.pointer none] 96)) (.cells #[Jn 4,Jn 0,.string ⟨#[]⟩,.pointer none,.pointer none] 96);simpa[az,aZ] using this
   .exact .atom _ _ _ (ku (h0.out lo h) (by rw[P];omega)) (λb e=>by cases e)
   .exact(((fL _ _).alloc (ew _) _).alloc (by simp) _)
  case round=>
   obtain⟨k,hk,rfl,hR,⟨c,f,A,q,O⟩,hb,h2⟩:=hrel;have u:=ag O;clear O;rcases Sd k with rfl|h8
   .obtain⟨ck,cm,cs,cp,rfl⟩:=q.form;have v0:=ae f 0;have v1:=ae f 1;have v2:=ae f 2;have v3:=ae f 3;have v4:=ae f 4;simp[az] at v0 v1 v2 v3 v4;have r0:=ae hR 0;have r1:=ae hR 1;have r2:=ae hR 2;have r3:=ae hR 3;have r4:=ae hR 4;simp at r0 r1 r2 r3 r4;have f0:=ah hR 0;have f1:=ah hR 1;have f2:=ah hR 2;have f3:=ah hR 3;have f4:=ah hR 4;have E:=ag hR;have HV:=ag f;have G:=ag q;have F:=ag hb;clear hR f q hb A;have hS:=bA (Jn ck) (Jn cm) (.string cs) (.pointer cp) (.pointer none) E.out;have Q:=ae hS 0;have U:=ae hS 1;have V:=ae hS 2;have X:=ae hS 3;have Y:=ae hS 4;clear hS;have Q:_=some (Jn ck):=Q;have U:_=some (Jn cm):=U;have V:_=some (Value.string cs):=V;have X:_=some (Value.pointer cp):=X;have Y:_=some (Value.pointer none):=Y;unfold dW at Q U V X Y;go_wp2;refine ff (v:=.agg (az ck cm cs cp)) (by simp[results,results106,go_sem,az,Q,U,V,X,Y]) rfl ⟨_,?_,rfl,?_,?_,?_⟩
    .rfl
    .exact(rX E.out G.out F.out t css u.out).1
    .exact(rX E.out G.out F.out t css u.out).2.1
    .exact(rX E.out G.out F.out t css u.out).2.2
   .obtain⟨j,rfl⟩:∃j,k=j+1:=⟨k-1,by omega⟩;obtain⟨a0,a1,a2,a3,a4,rfl⟩:=Hl c A;obtain⟨e,I,J,K,l⟩:=qp H j (by omega);obtain⟨g,rfl,_,L,d⟩:=y.out (by omega);have y:=ag d;clear d;obtain⟨b0,b1,b2,b3,b4,rfl⟩:=Hl e J;have v0:=ae f 0;have v1:=ae f 1;have v2:=ae f 2;have v3:=ae f 3;have v4:=ae f 4;have f0:=ah f 0;have f1:=ah f 1;have f2:=ah f 2;have f3:=ah f 3;have f4:=ah f 4;simp at v0 v1 v2 v3 v4;have s0:wr.cell? (dq g (j *5))=some b0:=by rw[hb.cell (p:=(dq g (j *5))) L];exact y.out _ _ (by have:=l 0 (by omega);simpa using this)
    have s1:wr.cell? (dq g (j *5+1))=some b1:=by rw[hb.cell (p:=(dq g (j *5+1))) L];exact y.out _ _ (by have:=l 1 (by omega);simpa using this)
    have s2:wr.cell? (dq g (j *5+2))=some b2:=by rw[hb.cell (p:=(dq g (j *5+2))) L];exact y.out _ _ (by have:=l 2 (by omega);simpa using this)
    have s3:wr.cell? (dq g (j *5+3))=some b3:=by rw[hb.cell (p:=(dq g (j *5+3))) L];exact y.out _ _ (by have:=l 3 (by omega);simpa using this)
    have s4:wr.cell? (dq g (j *5+4))=some b4:=by rw[hb.cell (p:=(dq g (j *5+4))) L];exact y.out _ _ (by have:=l 4 (by omega);simpa using this)
    have E:=ag hR;have HV:=ag f;have G:=ag q;have F:=ag hb;have HE:=ag K;have Z:=ag I;clear hR f q hb K l A J I;have h4:w.heap.size+1<wr.heap.size:=by omega
    have h3:w.heap.size<wr.heap.size:=by omega
    have h1:j<ds.length:=by omega
    go_wp2;go_region;go_wp2;go_roundw
    case rel=>exact⟨j,by omega,rfl,list_round h1 E.out HV.out G.out F.out h2 HE.out Z.out u.out _ rfl⟩
    case measure=>simp[intOf]
def fm:al:=.agg #[.int .i64 0,.int .i64 0,.string ⟨#[]⟩,.pointer none,.pointer none]
theorem kh:(prog.info? 96).map (λi=>(i.zero,i.size,i.bytes))=some (some fm,5,48):=by kernel_rfl
theorem dl.nil(B:Nat)(w:aa):dl B w (.slice none 0 0) []:=oh _ _ _ _
theorem aq{w:aa}{size:Nat}{v:al}(h:w.ownsRow base e size v n xs)(t:aB S w w')(q:∀g,v.ownBlock=some g->¬S g):w'.ownsRow base e size v n xs:=by
 obtain⟨h1,h2⟩:=h;refine⟨h1,?_⟩;rcases h2 with h2|⟨g,b,d,c,f,l,r⟩
 .exact RP h2
 .exact RA ⟨g,b,d,c,f,t.at l (q g (by rw[c];rfl)),r⟩
theorem ar{w:aa}{size:Nat}{v:al}(h:w.ownsRow base e size v n xs){g:Nat}(b:v.ownBlock=some g):base<=g/\g<w.heap.size:=by
 rcases h.2 with⟨c,_⟩|⟨q,d,l,c,hb,f,r⟩
 .rw[c] at b;cases b
 .rw[c] at b;cases b;exact⟨hb,ai f⟩
theorem ba{w:aa}{size:Nat}{v:al}(h:w.ownsRow base e size v n xs)(hb:b'<=base):w.ownsRow b' e size v n xs:=by
 obtain⟨h1,h2⟩:=h;refine⟨h1,?_⟩;rcases h2 with h2|⟨g,b,c,f,d,r⟩
 .exact RP h2
 .exact RA ⟨g,b,c,f,ku hb d,r⟩
theorem cr{w:aa}{size:Nat}{v:al}(h:w.ownsRow base 96 size v n xs)(l:T≠96):∀(k:Nat) c,v.ownBlock=some k->¬w.heap[k]? =some (Obj.cells c T (0,0)):=by
 intro k c b;rcases h.2 with⟨d,_⟩|⟨u,f,t,d,hb,q,r⟩
 .rw[d] at b;cases b
 .rw[d] at b;cases b;rw[q];simp;intro _ h;exact absurd h.symm l
theorem iz(k m:Int)(s:ao)(p:a8)(w:aa)(b:(k==5)=false):
  cl 66 #[.agg (az k m s p)] w λe w'=>e=.returned (.tuple #[.slice none 0 0,.bool (k==4)])/\Below w.heap.size w w':=by
 unfold az;go_enter func66,ntmps66;go_wp2
 go_loopw [4] (λv wr=>v=.slice none 0 0/\wr=w.alloc (.cells #[Jn k,Jn m,.string s,.pointer p,.pointer none] 96)) (λ_ _=>0)
 case atStart=>exact⟨rfl,rfl⟩
 case round=>
  obtain⟨rfl,rfl⟩:=hrel;go_wp2
  go_quiet (fail)
  go_wp2;go_ret2;exact⟨rfl,aB.below (S:=λ_=>False) (aB.drewN (aB.alloc (TU _ w) _) _) (ew _) (λ_ h=>h.elim)⟩
theorem iO{w:aa}{b:Nat}{fz:Nat×Nat}(h:w.heap[b]? =some (Obj.cells #[a0,a1,a2,a3,a4] T fz)):∀(j:Nat) u,[a0,a1,a2,a3,a4][j]? =some u->w.cell? (Addr.add (dq b 0) j)=some u:=PL h
theorem MF(k m:Int)(s:ao)(p:a8):∀u∈[Jn k,Jn m,.string s,.pointer p,.pointer none],u.oneCell'=true:=by
 intro u b;simp at b;rcases b with rfl|rfl|rfl|rfl|rfl<;>rfl
theorem bC{w:aa}{row:Option Nat}(h:(w.alloc o).grownBy w1 row):aB (λk=>row=some k) w w1:=T2 ((TU _ w).alloc o) h (λk b _=>b)
def qE(w:aa)(n:Nat)(l:List D)(v:al)(wr:aa)(k:Nat):Prop:=
 (∃a,dl (w.heap.size+1) wr v a/\dT wr n a (l.take k))/\(∃c,wr.heap[w.heap.size]? =some (Obj.cells c 96 (0,0))/\dd wr (RV wr n) c (l.drop k))/\Below w.heap.size w wr/\w.heap.size+1<=wr.heap.size
def TQ:al->Nat|.slice _ n _=>n|_=>0
theorem dg{w:aa}{size:Nat}{v:al}(h:w.ownsRow base e size v n xs):TQ v=n:=by
 rcases h.2 with⟨b,d⟩|⟨l,c,f,b,r⟩
 .rw[b,d];rfl
 .rw[b];rfl
theorem lp(css:List bc)(c:bc):flat (css++[c])=flat css++c.toList:=by simp[flat]
theorem zv{w:aa}{l:List D}{v:al}{b:Nat}(h:k<l.length)(F:dl (w.heap.size+1) wr v css)(A:dT wr n css (l.take k))(q:w1.heap[w.heap.size]? =some (.cells (az 5 0 aZ (eb b)) 96))(G:RV wr n (az k1 m1 s1 p1) l[k])(J:dd wr (RV wr n) (az k2 m2 s2 p2) (l.drop (k+1)))(hb:Below w.heap.size w wr)(I:w.heap.size+1<=wr.heap.size)(t:aB (λk=>v.ownBlock=some k) wr w1)(ho:w1.ownsRow (w.heap.size+1) 96 5 v' (css.length+1) (flat css++[Jn k1,Jn m1,.string s1,.pointer p1,.pointer none]))(W':aa)(E:W'=dW w1 w.heap.size (Jn k2) (Jn m2) (.string s2) (.pointer p2) (.pointer none)):qE w n l v' W' (k+1):=by
 have f:aB (λk=>k=w.heap.size) w1 W':=by rw[E];exact cU _ _ _ _ _ _ _
 have u:aC 162 wr w1:=T1 t (cr F (by decide));have y:aC 162 w1 W':=T1 f (by intro k c h;subst h;rw[q];simp);have d:=u.trans y;refine⟨⟨css++[az k1 m1 s1 p1],?_,?_⟩,⟨az k2 m2 s2 p2,?_,?_⟩,?_,?_⟩
 .have:=aq ho f (λg H=>by have:=(ar ho H).1;omega);unfold dl;rw[lp,ga];exact this
 .rw[mn h];exact dT.append (dT.ak d n _ _ A) ⟨rfl,RV.ak d _ _ _ G,trivial⟩
 .rw[E];exact bA _ _ _ _ _ q
 .exact dd.ak d (RV.ak d n) _ _ J
 .refine(hb.trans (t.below hb.size ?_)).trans (f.below (ku hb.size t.size) (by intro k h;omega));intro k h;have:=(ar F h).1;omega
 .have:=t.size;have:=f.size;omega
theorem zw{w:aa}{l:List D}(c:dd w (RV w n) #[a0,a1,a2,a3,a4] l):qE w n l (.slice none 0 0) (w.alloc (.cells #[a0,a1,a2,a3,a4] 96)) 0:=by
 have hb:Below w.heap.size w (w.alloc (.cells #[a0,a1,a2,a3,a4] 96)):=(fL _ _).alloc (ew _) _;have b:=TX (T:=162) hb;exact⟨⟨[],dl.nil _ _,by simp[dT]⟩,⟨_,fK _ _,dd.ak b (RV.ak b n) _ _ c⟩,hb,by simp⟩
theorem Fb{w:aa}{l:List D}{v:al}(f:dl (w.heap.size+1) wr v css)(b:dT wr n css (l.take l.length))(hb:Below w.heap.size w wr)(W':aa)(c:aB (λ_=>False) wr W'):
  dl w.heap.size W' v css/\dT W' n css l/\Below w.heap.size w W':=by
 have d:aC 162 wr W':=T1 c (λ_ _ h=>h.elim);refine⟨ba (aq f c (λ_ _ h=>h)) (by omega),?_,hb.trans (c.below hb.size (λ_ h=>h.elim))⟩;rw[xp] at b;exact dT.ak d n _ _ b
theorem B6(n:Nat)(l:List D)(cs:bc)(w:aa)(hv:RV w (n+1) cs (.agg l)):
  cl 66 #[.agg cs] w λe w'=>∃v css,e=.returned (.tuple #[v,.bool true])/\dl w.heap.size w' v css/\dT w' n css l/\Below w.heap.size w w':=by
 obtain⟨hl,f⟩:l.length<=1000/\dd w (RV w n) cs l:=hv;obtain⟨k0,m0,s0,p0,rfl⟩:=f.form;have HV:=ag f;clear f;unfold az at *;obtain⟨i0,hi,L,M,O⟩:=sv kh;have P:=ag (ei hi (ei L (ei M O)));clear hi L M O;go_enter func66,ntmps66;go_wp2
 go_loopw [4] (λv wr=>∃k,k<=l.length/\qE w n l v wr k) (λv _=>l.length-TQ v)
 case atStart=>exact⟨0,kc _,zw HV.out⟩
 case round=>
  obtain⟨k,hk,⟨css,u,q⟩,⟨c,hB,f⟩,hb,h1⟩:=hrel;rcases P5 hk with hlt|rfl
  .rw[TM l k hlt] at f;obtain⟨b,c1,c2,rfl,H,Z,h0,hd,hr⟩:=f;obtain⟨k1,m1,s1,p1,rfl⟩:=T7 _ _ _ hd;obtain⟨k2,m2,s2,p2,rfl⟩:=hr.form;have b0:=ae hB 0;have b3:=ae hB 3;have f0:=ah hB 0;have f1:=ah hB 1;have f2:=ah hB 2;have f3:=ah hB 3;have f4:=ah hB 4;have x0:=ae H 0;have x1:=ae H 1;have x2:=ae H 2;have x3:=ae H 3;have x4:=ae H 4;simp[az] at b0 b3 x0 x1 x2 x3 x4;have F:=ag u;have G:=ag q;have Q:=ag hB;have HP:=ag H;have HD:=ag hd;have HT:=ag hr;have V:=ag hb;have I:=q.length;clear u q hB H hd hr hb Z h0;have h2:css.length<=1000:=by rw[I];simp;omega
   have K:=ag I;clear I;go_wp2_with (at_builtin;refine nl _ rfl (.tmp 8) (.tmp 14) 65 rfl (w.heap.size+1) 96 i0 fm 5 48 underlying65 P.out.1 P.out.2.1 P.out.2.2.1 P.out.2.2.2 rfl (by decide) _ css.length (flat css) rfl (F.out.alloc _) (dq wr.heap.size 0) 1 1 [Jn k1,Jn m1,.string s1,.pointer p1,.pointer none] rfl rfl (iO (fK _ _)) (MF _ _ _ _) (by decide) (by unfold maxLen;omega) (by omega) (by simp;omega) (wr.heap.size+1) (by simp) ?_);intro g h6 w1 A y h7 h3;have E:=bC y;have J:∀(k:Nat) (c:bc),u4.ownBlock=some k->¬wr.heap[k]? =some (Obj.cells c 162 (0,0)):=cr F.out (by decide);have d:=E.at Q.out (λh=>by have:=(ar F.out h).1;omega);have t:=E.at HP.out (λh=>J _ _ h HP.out);have y0:=ae d 0;have y1:=ae d 1;have y2:=ae d 2;have y3:=ae d 3;have y4:=ae d 4;have f0:=ah d 0;have f1:=ah d 1;have f2:=ah d 2;have f3:=ah d 3;have f4:=ah d 4;have x5:=ae t 5;have x6:=ae t 6;have x7:=ae t 7;have x8:=ae t 8;have x9:=ae t 9;simp[az] at y0 y1 y2 y3 y4 x5 x6 x7 x8 x9;have U:=ag d;have h4:=ag t;have Y:=ag E;have X:=ag A;have h5:=ag J;clear d t E A y J;go_wp2;go_roundw
   case rel=>exact⟨k+1,by omega,zv hlt F.out G.out U.out HD.out HT.out V.out h1 Y.out X.out _ rfl⟩
   case measure=>rw[dg F.out,K.out];simp[TQ,K.out];omega
  .rw[RK] at f;have f:c=az 4 0 aZ none:=f;subst f;have b0:=ae hB 0;simp[az] at b0;have F:=ag u;have G:=ag q;have Q:=ag hb;clear u q hB hb;go_wp2
   go_quiet (fail)
   go_wp2;go_ret2;exact⟨_,css,rfl,Fb F.out G.out Q.out _ ((TU _ _).drewN _)⟩
theorem lq(n:Nat)(d:D)(cs:bc)(w:aa)(c:RV w (n+1) cs d):
  cl 66 #[.agg cs] w λe w'=>∃v css,e=.returned (.tuple #[v,.bool (aX d)])/\dl w.heap.size w' v css/\dT w' n css (aE d)/\Below w.heap.size w w':=by
 match d,c with
 |.agg l,c=>exact B6 n l cs w c
 |.lit (.int k m),c=>
  cases k<;>first|(cases c;done)|(have h:some _=some cs:=c;cases h;exact(iz _ _ _ _ w rfl).mono λe w' ⟨f,hb⟩=>⟨_,[],f,dl.nil _ _,trivial,hb⟩)
 |.lit (.bool b),c=>have h:some _=some cs:=c;cases h;exact(iz _ _ _ _ w rfl).mono λe w' ⟨f,hb⟩=>⟨_,[],f,dl.nil _ _,trivial,hb⟩
 |.lit (.string b),c=>have h:some _=some cs:=c;cases h;exact(iz _ _ _ _ w rfl).mono λe w' ⟨f,hb⟩=>⟨_,[],f,dl.nil _ _,trivial,hb⟩
 |.lit (.float _ _),c=>cases c
 |.lit .nil,c=>cases c
 |.nil,c=>have h:some _=some cs:=c;cases h;exact(iz _ _ _ _ w rfl).mono λe w' ⟨f,hb⟩=>⟨_,[],f,dl.nil _ _,trivial,hb⟩
 |.ptr _,c=>cases c
 |.slice _ _,c=>cases c
 |.iface _ _,c=>cases c
 |.map _,c=>cases c
 |.held _,c=>cases c
theorem xF:∀(l:au),oS l<=l.length
 |[]=>ew _
 |c::r=>by have:=xF r;simp only[oS,j1];split<;>omega
theorem vo(l:au)(i:Nat)(h:i<=l.length):bH l i<=l.length:=by
 have:=xF (l.drop i);simp at this;unfold bH;omega
theorem jx:∀(l:au) (b:Bool),cX b l<=l.length
 |[],b=>by simp[cX]
 |c::r,false=>by
  have h1:=jx r false;have h2:=jx r true;simp only[cX,j1];split
  .omega
  .split<;>omega
 |c::r,true=>by
  have h1:=jx r false;have h2:=jx r true;simp only[cX,j1];split<;>omega
theorem eT(l:au)(i:Nat)(h:i<=l.length):aJ l i<=l.length:=by
 have:=jx (l.drop i) false;simp at this;unfold aJ;omega
theorem eR(l:au):∀(n op i:Nat) (m:Option (List D)) (d:D) (k:Nat),i<=l.length->(m=none->i<l.length)->rd n l op i m=.inr (d,k)->i<k/\k<=l.length
 |0,op,i,m,d,k,_,_,h=>by simp[rd] at h
 |n+1,op,i,none,d,k,hi,hm,h=>by
  have hi:=hm rfl;simp only[rd] at h;split at h
  .cases h
  split at h
  .split at h
   .cases h
   .have:=eR l n (op+1) (i+1) (some []) d k (by omega) (by simp) h;omega
  split at h
  .split at h
   .cases h
   .split at h
    .cases h
    .rename_i q
     have h1:=eT l (i+1) (by omega);have h2:i+1<=aJ l (i+1):=by unfold aJ;omega
     split at h
     .cases h
     .rename_i b f c
      cases h;have:=eR l n (op+1) (aJ l (i+1)) none b k (by omega) (λ_=>by omega) c;omega
  split at h
  .cases h
  .rename_i t
   have h1:=vo l i (by omega);have h2:i<=bH l i:=by unfold bH;omega
   split at h
   .cases h
   .cases h;omega
 |n+1,op,i,some acc,d,k,hi,hm,h=>by
  simp only[rd] at h;have h1:=eT l i hi;have h2:i<=aJ l i:=by unfold aJ;omega
  split at h
  .cases h
  split at h
  .cases h;omega
  split at h
  .cases h
  .rename_i b f c
   have:=eR l n op (aJ l i) none b f (by omega) (λ_=>by omega) c;have:=eR l n op f (some (acc++[b])) d k (by omega) (by simp) h;omega
theorem oM(l:au):∀(n op i:Nat) (m:Option (List D)) (e:Int) (a:Nat),i<=l.length->(m=none->i<l.length)->2 *(l.length-i)+(if m.isSome then 1 else 0)<n->rd n l op i m=.inl (e,a)->¬e=0
 |0,op,i,m,e,a,_,_,c,h=>by omega
 |n+1,op,i,none,e,a,hi,hm,c,h=>by
  have hi:=hm rfl;simp at c;simp only[rd] at h;split at h
  .cases h;omega
  split at h
  .split at h
   .cases h;omega
   .exact oM l n (op+1) (i+1) (some []) e a (by omega) (by simp) (by simp;omega) h
  split at h
  .split at h
   .cases h;omega
   .split at h
    .cases h;omega
    .rename_i q
     have h1:=eT l (i+1) (by omega);have h2:i+1<=aJ l (i+1):=by unfold aJ;omega
     split at h
     .rename_i e' b
      cases h;exact oM l n (op+1) (aJ l (i+1)) none e a (by omega) (λ_=>by omega) (by simp;omega) b
     .cases h
  split at h
  .cases h;omega
  .split at h
   .cases h;omega
   .cases h
 |n+1,op,i,some acc,e,a,hi,hm,c,h=>by
  simp at c;simp only[rd] at h;have h1:=eT l i hi;have h2:i<=aJ l i:=by unfold aJ;omega
  split at h
  .cases h;omega
  split at h
  .cases h
  split at h
  .rename_i e' b
   cases h;exact oM l n op (aJ l i) none e a (by omega) (λ_=>by omega) (by simp;omega) b
  .rename_i d f b
   have:=eR l n op (aJ l i) none d f (by omega) (λ_=>by omega) b;exact oM l n op f (some (acc++[d])) e a (by omega) (by simp) (by simp;omega) h
attribute [local go_sem↓] Go.wp_at_zero Go.wp_at_succ
def RG(w:aa)(lo m:Nat)(cs:bc)(g:D):Prop:=RV w m cs g/\Gp w lo w.heap.size cs
theorem RG.ak{w:aa}{lo:Nat}(h:RG w lo m cs g)(k:aC 162 w w')(b:w.heap.size<=w'.heap.size):RG w' lo m cs g:=⟨RV.ak k _ _ _ h.1,(h.2.ak (qg.ak k)).hi b⟩
theorem RG.lo{w:aa}{lo:Nat}(h:RG w lo m cs g)(b:lo'<=lo):RG w lo' m cs g:=⟨h.1,h.2.lo b⟩
theorem RG.up{w:aa}{lo:Nat}(h:RG w lo m cs g):RG w lo (m+1) cs g:=⟨RV.up _ _ _ h.1,h.2⟩
def dH(s:ao)(C:Nat)(w:aa)(m:Nat)(r:xX (D×Nat))(e:bo)(w':aa):Prop:=
 ∃cs g,e=.returned (.agg cs)/\RG w' w.heap.size m cs g/\aB (λk=>k=C) w w'/\∃i':Int,∃e':Int,∃a':Int,w'.heap[C]? =some (cur s i' e' a')/\
  (∀er p,r=.inl (er,p)->e'=er/\a'=p)/\(∀d k,r=.inr (d,k)->e'=0/\a'=0/\i'=k/\g=d)
def mz(s:ao)(n:Nat):Prop:=∀(C op i:Nat) (w:aa),op<=20->i<s.size->w.heap[C]? =some (cur s i 0 0)->2 *(s.size-i)<n->
 cl 64 #[Pt C,Jn op] w (dH s C w (21-op) (rd n s.data.toList op i none))
def vH(s:ao)(n:Nat):Prop:=∀(C op i:Nat) (w:aa),1<=op->op<=20->i<=s.size->w.heap[C]? =some (cur s i 0 0)->2 *(s.size-i)+1<n->
 cl 105 #[Pt C,Jn op] w (dH s C w (22-op) (rd n s.data.toList op i (some [])))
def LE(C:Nat)(w:aa):Nat:=match w.cell? ⟨C,1,none⟩ with|some (.int _ i)=>i.toNat|_=>0
theorem qk{w:aa}{e:Int}(h:w.heap[C]? =some (cur s i e a)):LE C w=i.toNat:=by
 have:=ae (o:=1) h;unfold LE;rw[this];rfl
theorem gZ(s:ao)(k:Nat)(h:k<s.size):s.data.toList.getD k 0=s[k]:=by
 rw[pk,fA (by simpa using h)];rfl
def A9(s:ao)(C op N:Nat)(w:aa)(R:xX (D×Nat))(v:al)(wr:aa)(n i:Nat)(a:List D)(b:List bc):Prop:=
 n<=N/\i<=s.size/\2 *(s.size-i)+1<n/\rd n s.data.toList op i (some a)=R/\a.length<=i/\wr.heap[C]? =some (cur s i 0 0)/\dl (w.heap.size+1) wr v b/\dT wr (21-op) b a/\
  wr.heap[w.heap.size]? =some (Obj.cells #[Jn 0,Jn 0,.string ⟨#[]⟩,.pointer none,.pointer none] 96 (0,0))/\aB (λk=>k=C) w wr/\w.heap.size+1<=wr.heap.size/\ko wr w.heap.size b wr.heap.size
theorem jI{w:aa}(l:C<w.heap.size)(q:aB (λk=>k=C) w W1)(hR:W1.heap[w.heap.size]? =some (Obj.cells z 96 (0,0)))(h:W1.heap[C]? =some (cur s i' e' a'))(t:RG W1 w.heap.size m (az k0 m0 s0 p0) g)(h1:∀er p,r=.inl (er,p)->e'=er/\a'=(p:Int))(h2:∀d k,r=.inr (d,k)->e'=0/\a'=0/\i'=(k:Int)/\g=d):
  dH s C w m r (.returned (.agg (az k0 m0 s0 p0))) (dW W1 w.heap.size (Jn k0) (Jn m0) (.string s0) (.pointer p0) (.pointer none)):=by
 have b:=cU W1 w.heap.size (Jn k0) (Jn m0) (.string s0) (.pointer p0) (.pointer none);have f:aC 162 W1 (dW W1 w.heap.size (Jn k0) (Jn m0) (.string s0) (.pointer p0) (.pointer none)):=T1 b (by intro k c f;subst f;rw[hR];simp);exact⟨_,g,rfl,t.ak f b.size,q.trans b (by intro j u v;omega),i',e',a',b.at h (by omega),h1,h2⟩
theorem dH.grow{w:aa}{e:bo}(h:dH s C w m r e W)(b:aB (λ_=>False) W W'):dH s C w m r e W':=by
 obtain⟨cs,g,f,l,d,i',e',a',c,h1,h2⟩:=h;exact⟨cs,g,f,l.ak (T1 b (λ_ _ h=>h.elim)) b.size,d.trans b (λ_ _ h=>h.elim),i',e',a',b.at c (λh=>h),h1,h2⟩
theorem aB.GV(w:aa)(o:Obj):aB (λ_=>False) w (w.alloc o):=(TU _ w).alloc o
theorem JB(n:Nat)(l:au)(op i:Nat)(acc:List D)(h:aJ l i=l.length):rd (n+1) l op i (some acc)=.inl (2,l.length):=by simp only[rd];rw[fN h]
theorem Ag(n:Nat)(l:au)(op i:Nat)(acc:List D)(h:¬aJ l i=l.length)(h2:(l.getD (aJ l i) 0).toNat=41):rd (n+1) l op i (some acc)=.inr (ju acc,aJ l i+1):=by simp only[rd];rw[fb h,fN h2]
theorem pB(n:Nat)(l:au)(op i:Nat)(acc:List D)(h:¬aJ l i=l.length)(h2:¬(l.getD (aJ l i) 0).toNat=41)(e:Int×Nat)(h3:rd n l op (aJ l i) none=.inl e):
  rd (n+1) l op i (some acc)=.inl e:=by simp only[rd];rw[fb h,fb h2,h3]
theorem CK(n:Nat)(l:au)(op i:Nat)(acc:List D)(h:¬aJ l i=l.length)(h2:¬(l.getD (aJ l i) 0).toNat=41)(d:D)(k:Nat)(h3:rd n l op (aJ l i) none=.inr (d,k)):
  rd (n+1) l op i (some acc)=rd n l op k (some (acc++[d])):=by simp only[rd];rw[fb h,fb h2,h3]
theorem pX{R:bo->aa->Prop}{a:Act}{k m:Int}{q r:a8}{fz:Nat×Nat}(f:fn.results= #[.cell p 96])(hp:a.tmps.getD p undef=Pt B)(h:W.heap[B]? =some (Obj.cells #[Jn k,Jn m,.string s,.pointer q,.pointer r] 96 fz))(d:a.defers=[])(hR:R (.returned (.agg #[Jn k,Jn m,.string s,.pointer q,.pointer r])) W):bodyPost prog fn R .ret a W:=by
 have r0:=ae h 0;have r1:=ae h 1;have r2:=ae h 2;have r3:=ae h 3;have c:=ae h 4;simp at r0 r1 r2 r3 c;refine ff (v:=.agg #[Jn k,Jn m,.string s,.pointer q,.pointer r]) ?_ d hR;have b:a.tmps[p]?.getD undef=Pt B:=by simpa using hp
 simp[results,f,b,go_sem,r0,r1,r2,r3,c]
theorem jv{w:aa}{v:al}(h:dl B w v css)(c:aB (λk=>k=C) w w')(d:C<B):dl B w' v css:=
 aq h c (λg b=>by have:=(ar h b).1;omega)
theorem ji{w:aa}{e:Int}(b:w.heap[C]? =some (cur s i e a))(f:aB (λk=>k=C) w w'):aC 162 w w':=
 T1 f (by intro k c d;subst d;rw[b];simp[cur])
theorem RV.zero(w:aa)(n:Nat)(h:0<n):RV w n (az 0 0 aZ none) .nil:=by
 obtain⟨m,rfl⟩:∃m,n=m+1:=⟨n-1,by omega⟩;rfl
theorem RG.zero(w:aa)(lo n:Nat)(h:0<n)(c:lo<=w.heap.size):RG w lo n (az 0 0 aZ none) .nil:=⟨RV.zero w n h,.atom _ _ _ c (λb e=>by cases e)⟩
theorem bR(w:aa)(o o':Obj):((w.alloc o).alloc o').heap[w.heap.size+1]? =some o':=by
 have:=fK (w.alloc o) o';simpa using this
theorem Ec{w:aa}{row:Option Nat}(h:((w.alloc o).alloc o').grownBy w1 row):aB (λk=>row=some k) w w1:=T2 (((TU _ w).alloc o).alloc o') h (λk b _=>b)
theorem Eb{v:al}{e:Int}(d:C<B)(b:dl (B+1) w2 v css)(f:aB (λk=>v.ownBlock=some k) w2 w3)(c:w2.heap[C]? =some (cur s i e a)):w3.heap[C]? =some (cur s i e a):=
 f.at c (λh=>by have:=(ar b h).1;omega)
theorem FZ{i:Nat}{w:aa}{R:xX (D×Nat)}{v:al}{e:Int}(u:C<w.heap.size)(h1:n<=N)(h2:k<=s.size)(h3:2 *(s.size-k)+1<n)(H:rd n s.data.toList op k (some (acc++[g]))=R)(I:acc.length+1<=k)(J:aB (λj=>j=C) w wr)(y:wr.heap[C]? =some (cur s i e a))(q:dl (w.heap.size+1) wr v css)(E:dT wr (21-op) css acc)(d:aB (λj=>j=C) wr w2)(t:w2.heap[C]? =some (cur s k 0 0))(A:w2.heap[w.heap.size]? =some (.cells #[Jn 0,Jn 0,.string ⟨#[]⟩,.pointer none,.pointer none] 96))(G:RG w2 wr.heap.size (21-op) (az k0 m0 s0 p0) g)(F:ko wr w.heap.size css wr.heap.size)(K:w.heap.size+1<=wr.heap.size)(c:aB (λj=>v.ownBlock=some j) w2 w3)(ho:w3.ownsRow (w.heap.size+1) 96 5 v' (css.length+1) (flat css++[Jn k0,Jn m0,.string s0,.pointer p0,.pointer none])):
  A9 s C op N w R v' w3 n k (acc++[g]) (css++[az k0 m0 s0 p0]):=by
 have b:dl (w.heap.size+1) w2 v css:=jv q d (by omega);have f:aC 162 w2 w3:=T1 c (cr b (by decide));have l:=(ji y d).trans f;refine⟨h1,h2,h3,H,by simpa using I,Eb u b c t,?_,?_,?_,?_,?_,(F.ak (qg.ak l) (ew _)).join (eN.one (G.ak f c.size).2)⟩
 .unfold dl;rw[lp,ga];exact ho
 .exact dT.append (dT.ak l _ _ _ E) ⟨rfl,RV.ak f _ _ _ G.1,trivial⟩
 .exact c.at A (λh=>by have:=(ar b h).1;omega)
 .exact(J.trans d (λ_ _ h=>h)).trans c (λj L h=>by have:=(ar b h).1;omega)
 .have:=d.size;have:=c.size;omega
theorem F0{i:Nat}{w:aa}(h2:i<=s.size)(h3:2 *(s.size-i)+1<N)(b:w.heap[C]? =some (cur s i 0 0)):
  A9 s C op N w (rd N s.data.toList op i (some [])) (.slice none 0 0) (w.alloc (.cells #[Jn 0,Jn 0,.string ⟨#[]⟩,.pointer none,.pointer none] 96)) N i [] []:=
 ⟨ew _,h2,h3,rfl,kc _,aw b,dl.nil _ _,trivial,fK _ _,(TU _ w).alloc _,by simp,by show _<=_;simp⟩
theorem Mq(s:ao)(hs:s.size<=1000)(N:Nat)(HD:∀n,n<N->mz s n):vH s N:=by
 intro C op i w hO hz hi hC hn;have hc:=ag HD;clear HD;have L:=ai hC;obtain⟨i0,h3,hq,hr,ht⟩:=sv kh;have HI:=ag (ei h3 (ei hq (ei hr ht)));clear h3 hq hr ht;have HC:=ag hC;clear hC;go_enter func105,ntmps105;go_wp2
 go_loopw [5] (λv wr=>∃n i' acc css,A9 s C op N w (rd N s.data.toList op i (some [])) v wr n i' acc css) (λ_ wr=>s.size-LE C wr)
 case atStart=>exact⟨N,i,[],[],F0 hi hn HC.out⟩
 case round=>
  obtain⟨n,i',acc,css,hN,hx,hM,q,hL,M,h5,h6,hg,h8,hA,hp⟩:=hrel;have hd:=ag hp;clear hp;obtain⟨n,rfl⟩:∃m,n=m+1:=⟨n-1,by omega⟩;have c0:=ae M 0;have c1:=ae M 1;have f1:=ah M 1;simp at c0 c1;have G:=ag M;have H:=ag h5;have ha:=ag h6;have h9:=ag hg;have HU:=ag h8;have D:=ag q;clear M h5 h6 hg h8 q;go_wp2_with fail
  go_cut [] (λwc=>wc.heap[C]? =some (cur s (aJ s.data.toList i') 0 0)/\aB (λk=>k=C) wr wc)
  case first=>
   go_region_with (go_at_call 63;refine(sJ s i' _ ?_ ?_).mono ?_;omega;omega;rintro e w' ⟨rfl,rfl⟩)
   all_goals
    go_wp2
    go_meet
    case rel=>exact⟨TH G.out,((TU (λk=>k=C) wr).setCell (dq C 1) _ (λ_=>rfl)).drew⟩
  case rest=>
   obtain⟨K,hh⟩:=hcut;have ho:=im s.data.toList i' (by simpa using hx);have hy:=fe s.data.toList i';have HJ:Hid (∃j,aJ s.data.toList i'=j):=⟨_,rfl⟩;obtain⟨j,hj⟩:=HJ.out;rw[hj] at K ho hy;have Hj:=ag hj;clear hj HJ;simp at ho;have c0:=ae K 0;have c1:=ae K 1;simp at c0 c1;have Y:=ag K;have u:=ag hh;clear K hh;by_cases h1:j=s.size
   .have Hje:=ag h1;have bje:((j:Int)==(s.size:Int))=true:=by rw[xb];omega
    clear h1;go_wp2_with fail
    go_quiet (fail)
    go_wp2_with fail;refine(gD s j 0 0 2 j C _ (by exact Y.out)).mono ?_;rintro e w2 ⟨rfl,f,E⟩;have b:=E.at (u.out.at h9.out (by omega)) (by omega);have f0:=ah b 0;have f1:=ah b 1;have f2:=ah b 2;have f3:=ah b 3;have f4:=ah b 4;have r0:=ae b 0;have r1:=ae b 1;have r2:=ae b 2;have r3:=ae b 3;have r4:=ae b 4;simp at r0 r1 r2 r3 r4;have t:=ag b;have y:=ag f;have hv:=ag E;clear b f E;unfold az;go_wp2;refine pX results105 rfl (bA _ _ _ _ _ t.out) rfl ?_;have hk:=(HU.out.trans (u.out.drewN _) (λ_ _ h=>h)).trans hv.out (λ_ _ h=>h);refine jI L hk t.out y.out (RG.zero _ _ _ (by omega) hk.size) ?_ ?_
    .intro er p h;rw[<-D.out,JB _ _ _ _ _ (by rw[Hj.out,Hje.out];simp)] at h;cases h;exact⟨rfl,by rw[Hje.out];simp⟩
    .intro d k h;rw[<-D.out,JB _ _ _ _ _ (by rw[Hj.out,Hje.out];simp)] at h;cases h
   .have U:j<s.size:=by omega
    have bje:((j:Int)==(s.size:Int))=false:=by rw[j2];omega
    have hE:(j:Int)<(s.size:Int):=by omega
    have hD:(0:Int)<=(j:Int):=by omega
    have Hne:Hid (¬aJ s.data.toList i'=s.data.toList.length):=by show ¬_;rw[Hj.out];simpa using h1
    clear h1;by_cases h0:s[j].toNat=41
    .have b41:((s[j].toNat:Int)==41)=true:=by rw[xb];omega
     have F:Hid ((s.data.toList.getD (aJ s.data.toList i') 0).toNat=41):=by show _=_;rw[Hj.out,gZ s j U];exact h0
     clear h0;have f1:=ah Y.out 1;go_wp2_with fail
     go_quiet (fail)
     go_wp2_with fail
     go_quiet (fail)
     go_wp2_with fail;refine(rW (21-op) css acc _ _ (w.heap.size+1) (by exact jv H.out ((u.out.drewN _).setCell (dq C 1) _ (λ_=>rfl)) (by omega))
      (by exact dT.ak (ji G.out ((u.out.drewN _).setCell (dq C 1) _ (λ_=>rfl))) _ _ _ ha.out) (by omega)).mono ?_
     rintro e w2 ⟨cs,_,rfl,c,hb,h7⟩;have he:=ag (h7 w.heap.size (by exact hd.out.ak (qg.ak (ji G.out ((u.out.drewN _).setCell (dq C 1) _ (λ_=>rfl)))) ((u.out.drewN _).setCell (dq C 1) _ (λ_=>rfl)).size));clear h7;obtain⟨k0,m0,s0,p0,rfl⟩:=T7 _ _ _ c;have l:=aB.trans ((u.out.drewN _).setCell (dq C 1) _ (λ_=>rfl)) (TW (λk=>k=C) hb) (λ_ _ h=>h);have f:w2.heap[C]? =some (cur s (j+1) 0 0):=(TW (λ_=>False) hb).at (TH Y.out) (λh=>h);have b:=l.at h9.out (by omega);have f0:=ah b 0;have f1:=ah b 1;have f2:=ah b 2;have f3:=ah b 3;have f4:=ah b 4;have r0:=ae b 0;have r1:=ae b 1;have r2:=ae b 2;have r3:=ae b 3;have r4:=ae b 4;simp at r0 r1 r2 r3 r4;have t:=ag b;have y:=ag f;have J:=ag l;have A:=ag c;clear b f l c hb;unfold az;go_wp2;refine pX results105 rfl (bA _ _ _ _ _ t.out) rfl ?_;refine jI (g:=.agg acc) L (HU.out.trans J.out (λ_ _ h=>h)) t.out y.out ⟨by have:=A.out;rw[show 21-op+1=22-op from by omega] at this;exact this,he.out⟩ ?_ ?_
     .intro er p h;rw[<-D.out,Ag _ _ _ _ _ Hne.out F.out] at h;cases h
     .intro d k h;rw[<-D.out,Ag _ _ _ _ _ Hne.out F.out,Hj.out] at h;cases h;exact⟨rfl,rfl,by omega,rfl⟩
    .have b41:((s[j].toNat:Int)==41)=false:=by rw[j2];omega
     have F:Hid (¬(s.data.toList.getD (aJ s.data.toList i') 0).toNat=41):=by show ¬_;rw[Hj.out,gZ s j U];exact h0
     clear h0;go_wp2_with fail
     go_quiet (fail)
     go_wp2_with fail
     go_quiet (fail)
     go_wp2_with fail;refine(hc.out n (by omega) C op j _ hz U (by exact Y.out) (by omega)).mono ?_;rintro e w2 ⟨cs,g,rfl,h2,E,i2,e2,a2,f,P,Q⟩;have c:=h2.lo (show wr.heap.size<=_ from(u.out.drewN _).size);clear h2;obtain⟨k0,m0,s0,p0,rfl⟩:=T7 _ _ _ c.1;have l:=aB.trans (u.out.drewN _) E (λ_ _ h=>h);have b:=l.at h9.out (by omega);have hI:=l.size;have e2c:=ae f 2;simp at e2c;have hB:=ai f;cases q:rd n s.data.toList op j none with
     |inl ep=>
      obtain⟨er,pp⟩:=ep;obtain⟨rfl,rfl⟩:=P er pp q;have h4:=oM s.data.toList n op j none e2 pp (by simp;omega) (λ_=>by simpa using U) (by simp;omega) q;have bne0:(e2 !=0)=true:=by rw[SC];exact h4
      have f0:=ah b 0;have f1:=ah b 1;have f2:=ah b 2;have f3:=ah b 3;have f4:=ah b 4;have r0:=ae b 0;have r1:=ae b 1;have r2:=ae b 2;have r3:=ae b 3;have r4:=ae b 4;simp at r0 r1 r2 r3 r4;have hG:w.heap.size<w2.heap.size:=by omega
      have t:=ag b;have y:=ag f;have J:=ag l;have A:=ag c;have Z:=ag q;clear b f l c E P Q q h4;unfold az;go_wp2;refine pX results105 rfl (aw (bA _ _ _ _ _ t.out)) rfl ?_;refine dH.grow (jI (g:=g) (m:=22-op) L (HU.out.trans J.out (λ_ _ h=>h)) t.out y.out (by rw[show 22-op=21-op+1 from by omega];exact A.out.up.lo (by omega)) ?_ ?_) (aB.GV _ _)
      .intro er p h;rw[<-D.out,pB _ _ _ _ _ Hne.out F.out _ (by rw[Hj.out];exact Z.out)] at h;cases h;exact⟨rfl,rfl⟩
      .intro d k h;rw[<-D.out,pB _ _ _ _ _ Hne.out F.out _ (by rw[Hj.out];exact Z.out)] at h;cases h
     |inr dk=>
      obtain⟨d,k⟩:=dk;obtain⟨rfl,rfl,rfl,rfl⟩:=Q d k q;have hl:=eR s.data.toList n op j none g k (by simp;omega) (λ_=>by simpa using U) q;simp only[dP] at hl;have hm:=ha.out.length;have hF:css.length<=1000:=by omega
      have X:dl (w.heap.size+1) w2 u5 css:=jv H.out l (by omega);have I:=ag X;have t:=ag b;have y:=ag f;have J:=ag l;have A:=ag c;have Z:=ag q;have hJ:=ag hm;clear b f l c E P Q q X hm;unfold az;go_wp2_with (at_builtin;refine nl _ rfl (.tmp 63) (.tmp 65) 65 rfl (w.heap.size+1) 96 i0 fm 5 48 underlying65 HI.out.1 HI.out.2.1 HI.out.2.2.1 HI.out.2.2.2 rfl (by decide) _ css.length (flat css) rfl ((I.out.alloc _).alloc _) (dq (w2.heap.size+1) 0) 1 1 [Jn k0,Jn m0,.string s0,.pointer p0,.pointer none] rfl rfl (iO (bR _ _ _)) (MF _ _ _ _) (by decide) (by unfold maxLen;omega) (by omega) (by simp;omega) (w2.heap.size+2) (by simp) ?_);intro g' hK w3 V O hw hH;have H3:=Ec O;have hu:=ag V;have hf:=ag H3;clear V O hw H3;go_wp2;go_roundw
      case rel=>
       refine⟨n,k,acc++[g],css++[az k0 m0 s0 p0],?_⟩;exact FZ L (by omega) (by omega) (by omega) (by rw[<-D.out,CK _ _ _ _ _ Hne.out F.out g k (by rw[Hj.out];exact Z.out)]) (by omega) HU.out G.out H.out ha.out J.out y.out t.out A.out hd.out hA hf.out hu.out
      case measure=>
       rw[qk G.out,qk (Eb L I.out hf.out y.out)];simp;omega
attribute [local go_sem↓] Go.wp_at_zero Go.wp_at_succ
theorem CJ(n:Nat)(l:au)(op i:Nat)(h:(l.getD i 0).toNat=41):rd (n+1) l op i none=.inl (2,i):=by simp only[rd];rw[fN h]
theorem xi(n:Nat)(l:au)(op i:Nat)(h:(l.getD i 0).toNat=40\/(l.getD i 0).toNat=39)(ho:20<=op):rd (n+1) l op i none=.inl (3,i):=by
 simp only[rd];rcases h with h|h
 .rw[fb (by omega),fN h,fN ho]
 .rw[fb (by omega),fb (by omega),fN h,fN ho]
theorem MY(n:Nat)(l:au)(op i:Nat)(h:(l.getD i 0).toNat=40)(ho:¬20<=op):rd (n+1) l op i none=rd n l (op+1) (i+1) (some []):=by
 simp only[rd];rw[fb (by omega),fN h,fb ho]
theorem JC(n:Nat)(l:au)(op i:Nat)(h:(l.getD i 0).toNat=39)(ho:¬20<=op)(b:aJ l (i+1)=l.length):rd (n+1) l op i none=.inl (2,l.length):=by
 simp only[rd];rw[fb (by omega),fb (by omega),fN h,fb ho,fN b]
theorem Ai(n:Nat)(l:au)(op i:Nat)(h:(l.getD i 0).toNat=39)(ho:¬20<=op)(c:¬aJ l (i+1)=l.length)(e:Int×Nat)(b:rd n l (op+1) (aJ l (i+1)) none=.inl e):rd (n+1) l op i none=.inl e:=by
 simp only[rd];rw[fb (by omega),fb (by omega),fN h,fb ho,fb c,b]
theorem D4(n:Nat)(l:au)(op i:Nat)(h:(l.getD i 0).toNat=39)(ho:¬20<=op)(c:¬aJ l (i+1)=l.length)(d:D)(k:Nat)(b:rd n l (op+1) (aJ l (i+1)) none=.inr (d,k)):rd (n+1) l op i none=.inr (ju [sym sr,d],k):=by
 simp only[rd];rw[fb (by omega),fb (by omega),fN h,fb ho,fb c,b]
theorem CL(n:Nat)(l:au)(op i:Nat)(h1:¬(l.getD i 0).toNat=41)(h2:¬(l.getD i 0).toNat=40)(h3:¬(l.getD i 0).toNat=39):
  rd (n+1) l op i none=if bH l i=i then .inl (2,i) else match ig ((l.drop i).take (bH l i-i)) with|none=>.inl (2,i)|some d=>.inr (d,bH l i):=by
 simp only[rd];rw[fb h1,fb h2,fb h3];rfl
abbrev Z5:Obj:=.cells #[.int .i64 0,.int .i64 0,.string ⟨#[]⟩,.pointer none,.pointer none] 96 (0,0)
theorem io{w:aa}{e:Int}(b:C<w.heap.size)(hm:0<m)(c:aB (λk=>k=C) w w2)(hR:w2.heap[w.heap.size]? =some Z5)(l:w2.heap[C]? =some (cur s i e p))(f:r=.inl (e,p)):dH s C w m r (.returned (.agg (az 0 0 aZ none))) (dW w2 w.heap.size (Jn 0) (Jn 0) (.string aZ) (.pointer none) (.pointer none)):=
 jI b c hR l (RG.zero _ _ _ hm c.size) (λer q h=>by rw[f] at h;cases h;exact⟨rfl,rfl⟩) (λd k h=>by rw[f] at h;cases h)
theorem ts(s:ao)(Q:s.size<=1000)(n C op i:Nat)(w:aa)(ho:op<=20)(hi:i<s.size)(l:w.heap[C]? =some (cur s i 0 0))(E:s[i].toNat=41)(J:41=41\/20<=op):
  cl 64 #[Pt C,Jn op] w (dH s C w (21-op) (rd (n+1) s.data.toList op i none)):=by
 have D:=ai l;have F:=gZ s i hi;have G:rd (n+1) s.data.toList op i none=.inl (2,i):=by
  first
   |exact CJ _ _ _ _ (by rw[F];exact E)
   |exact xi _ _ _ _ (by rw[F];omega) (by omega)
 have y:=ag G;clear G F;have c0:=ae l 0;have c1:=ae l 1;simp at c0 c1;have b41:((s[i].toNat:Int)==41)=decide (41=41):=by rw[C2];simp;omega
 have b40:((s[i].toNat:Int)==40)=decide (41=40):=by rw[C2];simp;omega
 have b39:((s[i].toNat:Int)==39)=decide (41=39):=by rw[C2];simp;omega
 simp at b41 b40 b39;have H:=ag l;have I:=ag E;clear l E;have u:41=41\/(20:Int)<=(op:Int):=by omega
 have d:(20:Int)<=(op:Int)\/41=41:=by omega
 simp at u d;go_enter func64,ntmps64;go_wp2_with fail;refine(gD s i 0 0 2 i C _ (by exact aw H.out)).mono ?_;rintro e w2 ⟨rfl,q,c⟩;have b:=c.at (fK _ _) (by omega);have t:=((TU (λk=>k=C) w).alloc _).trans c (λ_ _ h=>h);have f0:=ah b 0;have L:=ah b 1;have M:=ah b 2;have O:=ah b 3;have P:=ah b 4;have r0:=ae b 0;have r1:=ae b 1;have r2:=ae b 2;have r3:=ae b 3;have K:=ae b 4;simp at r0 r1 r2 r3 K;have f:=ag b;have v:=ag q;have A:=ag t;clear b q c t;unfold az;go_wp2;refine pX results64 rfl (bA _ _ _ _ _ f.out) rfl ?_;exact io D (by omega) A.out f.out v.out y.out
theorem tr(s:ao)(Q:s.size<=1000)(n C op i:Nat)(w:aa)(ho:op<=20)(hi:i<s.size)(l:w.heap[C]? =some (cur s i 0 0))(E:s[i].toNat=40)(J:40=41\/20<=op):
  cl 64 #[Pt C,Jn op] w (dH s C w (21-op) (rd (n+1) s.data.toList op i none)):=by
 have D:=ai l;have F:=gZ s i hi;have G:rd (n+1) s.data.toList op i none=.inl (3,i):=by
  first
   |exact CJ _ _ _ _ (by rw[F];exact E)
   |exact xi _ _ _ _ (by rw[F];omega) (by omega)
 have y:=ag G;clear G F;have c0:=ae l 0;have c1:=ae l 1;simp at c0 c1;have b41:((s[i].toNat:Int)==41)=decide (40=41):=by rw[C2];simp;omega
 have b40:((s[i].toNat:Int)==40)=decide (40=40):=by rw[C2];simp;omega
 have b39:((s[i].toNat:Int)==39)=decide (40=39):=by rw[C2];simp;omega
 simp at b41 b40 b39;have H:=ag l;have I:=ag E;clear l E;have u:40=41\/(20:Int)<=(op:Int):=by omega
 have d:(20:Int)<=(op:Int)\/40=41:=by omega
 simp at u d;go_enter func64,ntmps64;go_wp2_with fail;refine(gD s i 0 0 3 i C _ (by exact aw H.out)).mono ?_;rintro e w2 ⟨rfl,q,c⟩;have b:=c.at (fK _ _) (by omega);have t:=((TU (λk=>k=C) w).alloc _).trans c (λ_ _ h=>h);have f0:=ah b 0;have L:=ah b 1;have M:=ah b 2;have O:=ah b 3;have P:=ah b 4;have r0:=ae b 0;have r1:=ae b 1;have r2:=ae b 2;have r3:=ae b 3;have K:=ae b 4;simp at r0 r1 r2 r3 K;have f:=ag b;have v:=ag q;have A:=ag t;clear b q c t;unfold az;go_wp2;refine pX results64 rfl (bA _ _ _ _ _ f.out) rfl ?_;exact io D (by omega) A.out f.out v.out y.out
theorem tq(s:ao)(Q:s.size<=1000)(n C op i:Nat)(w:aa)(ho:op<=20)(hi:i<s.size)(l:w.heap[C]? =some (cur s i 0 0))(E:s[i].toNat=39)(J:39=41\/20<=op):
  cl 64 #[Pt C,Jn op] w (dH s C w (21-op) (rd (n+1) s.data.toList op i none)):=by
 have D:=ai l;have F:=gZ s i hi;have G:rd (n+1) s.data.toList op i none=.inl (3,i):=by
  first
   |exact CJ _ _ _ _ (by rw[F];exact E)
   |exact xi _ _ _ _ (by rw[F];omega) (by omega)
 have y:=ag G;clear G F;have c0:=ae l 0;have c1:=ae l 1;simp at c0 c1;have b41:((s[i].toNat:Int)==41)=decide (39=41):=by rw[C2];simp;omega
 have b40:((s[i].toNat:Int)==40)=decide (39=40):=by rw[C2];simp;omega
 have b39:((s[i].toNat:Int)==39)=decide (39=39):=by rw[C2];simp;omega
 simp at b41 b40 b39;have H:=ag l;have I:=ag E;clear l E;have u:39=41\/(20:Int)<=(op:Int):=by omega
 have d:(20:Int)<=(op:Int)\/39=41:=by omega
 simp at u d;go_enter func64,ntmps64;go_wp2_with fail;refine(gD s i 0 0 3 i C _ (by exact aw H.out)).mono ?_;rintro e w2 ⟨rfl,q,c⟩;have b:=c.at (fK _ _) (by omega);have t:=((TU (λk=>k=C) w).alloc _).trans c (λ_ _ h=>h);have f0:=ah b 0;have L:=ah b 1;have M:=ah b 2;have O:=ah b 3;have P:=ah b 4;have r0:=ae b 0;have r1:=ae b 1;have r2:=ae b 2;have r3:=ae b 3;have K:=ae b 4;simp at r0 r1 r2 r3 K;have f:=ag b;have v:=ag q;have A:=ag t;clear b q c t;unfold az;go_wp2;refine pX results64 rfl (bA _ _ _ _ _ f.out) rfl ?_;exact io D (by omega) A.out f.out v.out y.out
theorem BC(s:ao)(hs:s.size<=1000)(n C op i:Nat)(w:aa)(L:vH s n)(ho:op<20)(hi:i<s.size)(t:w.heap[C]? =some (cur s i 0 0))(O:s[i].toNat=40)(hn:2 *(s.size-i)<n+1):
  cl 64 #[Pt C,Jn op] w (dH s C w (21-op) (rd (n+1) s.data.toList op i none)):=by
 have K:=ai t;have P:=gZ s i hi;have A:=ag (MY n s.data.toList op i (by rw[P];exact O) (by omega));clear P;have I:=ag L;clear L;have c0:=ae t 0;have c1:=ae t 1;have U:=ah t 1;simp at c0 c1;have b41:((s[i].toNat:Int)==41)=false:=by rw[j2];omega
 have b40:((s[i].toNat:Int)==40)=true:=by rw[xb];omega
 have Q:=ag t;clear t O;have V:(op:Int)<20:=by omega
 go_enter func64,ntmps64;go_wp2_with fail;have D:((w.setCell (dq C 1) (Jn ((i:Int)+1))).alloc Z5).heap[C]? =some (cur s ((i+1:Nat):Int) 0 0):=aw (TH Q.out);have M:((op:Int)+1)=((op+1:Nat):Int):=by omega
 rw[M];refine(I.out C (op+1) (i+1) _ (by omega) (by omega) (by omega) (by exact D) (by omega)).mono ?_;rintro e w2 ⟨cs,g,rfl,d,q,i2,e2,a2,E,f,l⟩;have c:=d.lo (lo':=w.heap.size) (by simp[World.setCell]);clear d;obtain⟨k0,m0,s0,p0,rfl⟩:=T7 _ _ _ c.1;have G:=(((TU (λk=>k=C) w).setCell (dq C 1) _ (λ_=>rfl)).alloc _).trans q (λ_ _ h=>h);have F:((w.setCell (dq C 1) (Jn ((i:Int)+1))).alloc Z5).heap[w.heap.size]? =some Z5:=by
  have:=fK (w.setCell (dq C 1) (Jn ((i:Int)+1))) Z5;simpa[World.setCell] using this
 have b:=q.at F (by omega);have f0:=ah b 0;have U:=ah b 1;have Y:=ah b 2;have Z:=ah b 3;have f4:=ah b 4;have r0:=ae b 0;have r1:=ae b 1;have r2:=ae b 2;have r3:=ae b 3;have X:=ae b 4;simp at r0 r1 r2 r3 X;have v:=ag b;have H:=ag E;have J:=ag G;have y:=ag c;have u:=ag (ei f l);clear b E q G F D c f l M;unfold az;go_wp2;refine pX results64 rfl (bA _ _ _ _ _ v.out) rfl ?_;exact jI (g:=g) K J.out v.out H.out (by have:=y.out;rw[show 22-(op+1)=21-op from by omega] at this;exact this) (by rw[A.out];exact u.out.1) (by rw[A.out];exact u.out.2)
end Go.Proofs.YtlobegpjenabaaaGreatDoor
