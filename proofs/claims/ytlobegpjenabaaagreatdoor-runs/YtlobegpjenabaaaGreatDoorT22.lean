import Derived.Test.YtlobegpjenabaaaGreatDoorT21
import Derived.LaidEqlPtr
namespace Go.Proofs.YtlobegpjenabaaaGreatDoor
open Go.RowKit Tryz
set_option linter.unusedSimpArgs false
set_option linter.unusedVariables false
set_option linter.defProp false
set_option maxRecDepth 100000
set_option maxHeartbeats 4000000
def Sf:=@Array.getElem?_eq_some_iff
variable {B n k g i j f M:Nat} {cs:List Vc} {Y P:a9} {wr w1 w' W:aa} {xs:a7} {v':al} {x y:Vc} {u:Sl} {z:Obj} {s t:au} {frs:List XF} {p:a8} {tp te:bi} {m:Rm} {e:bo}
theorem eX:∀(cs:List Vc),(bw cs).length=cs.length *5
 |[]=>rfl
 |c::r=>by
  have:=eX r;simp only[bw,Ps,ga,j1] at this ⊢;rw[this];simp[Vc.c];omega
theorem eP(cs:List Vc)(c:Vc):bw (cs++[c])=bw cs++c.c.toList:=by simp[bw]
def Row(B:Nat)(w:aa)(v:al)(cs:List Vc):Prop:=w.ownsRow B 96 5 v cs.length (bw cs)
theorem cC:∀(cs:List Vc) (i:Nat) (v:Vc),cs[i]? =some v->∀(j:Nat) (x:al),v.c[j]? =some x->(bw cs)[i *5+j]? =some x
 |[],i,v,h,j,x,_=>by simp at h
 |c::r,0,v,h,j,x,a=>by
  simp at h;subst h;have d:j<5:=by
   have:=(Sf.1 a).1;simpa[Vc.c] using this
  simp only[bw,Ps,v7,C4];rw[o5 (by simp[Vc.c];exact d),C1];exact a
 |c::r,i+1,v,h,j,x,a=>by
  have:=cC r i v (by simpa using h) j x a;simp only[bw,Ps];rw[s7 (by simp[Vc.c];omega)];have b:c.c.toList.length=5:=by simp[Vc.c]
  rw[b,show(i+1) *5+j-5=i *5+j by omega];exact this
theorem Row.lr{w:aa}{v:al}(h:Row B w v cs)(r:∀k,B<=k->k<w.heap.size->¬Y k):∃u:Sl,v=.slice u.a u.n u.c/\LR w Y u cs:=by
 obtain⟨a,b,rfl,h1,h2,h3⟩:=ay h;refine⟨⟨a,cs.length,b⟩,rfl,rfl,h1,h2,λhp=> ?_⟩;rcases h.2 with⟨l,D⟩|⟨g,cap',q,l,hb,d,_,_,F,C⟩
 .omega
 .cases l;refine⟨g,0,q,rfl,d,r g hb (ai d),λi v hi j x o=> ?_⟩;have hf:=cC cs i v hi j x o;have A:=(ke.1 hi).1;have E:j<5:=by
   have:=(Sf.1 o).1;simpa[Vc.c] using this
  rw[<-C,Bk,fN (by omega),C1] at hf;rw[C4];exact hf
def PO(w:aa)(l:List Vc)(v:al)(wr:aa)(k:Nat):Prop:=
 Row (w.heap.size+1) wr v (l.take k)/\(∃c:Vc,wr.heap[w.heap.size]? =some (Obj.cells c.c 96 (0,0))/\eC wr c (l.drop k))/\Below w.heap.size w wr/\w.heap.size+1<=wr.heap.size
theorem zx{v:al}(a:wr.ownsRow B 96 5 v n xs)(b:aB (λk=>v.ownBlock=some k) wr w1):KR wr w1:=
 ⟨T1 b (cr a (by decide)),T1 b (cr a (by decide)),T1 b (cr a (by decide))⟩
theorem jw{w:aa}{c:bc}(hB:w.heap[B]? =some (.cells c 96))(b:aB (λk=>k=B) w w1):KR w w1:=
 ⟨T1 b (by intro k c a;subst a;rw[hB];simp),T1 b (by intro k c a;subst a;rw[hB];simp),T1 b (by intro k c a;subst a;rw[hB];simp)⟩
theorem Fd{w:aa}{l:List Vc}{v:al}(d:k<l.length)(F:l[k]=x)(A:Row (w.heap.size+1) wr v (l.take k))(b:w1.heap[w.heap.size]? =some (.cells (eg g).c 96))(E:eC wr y (l.drop (k+1)))(hb:Below w.heap.size w wr)(D:w.heap.size+1<=wr.heap.size)(h:aB (λk=>v.ownBlock=some k) wr w1)(ho:w1.ownsRow (w.heap.size+1) 96 5 v' (k+1) (bw (l.take k)++x.c.toList))(o:aa)(r:o=dW w1 w.heap.size (Jn y.k) (Jn y.n) (.string y.s) (.pointer y.p) (.pointer y.f)):PO w l v' o (k+1):=by
 have a:aB (λk=>k=w.heap.size) w1 o:=by rw[r];exact cU _ _ _ _ _ _ _
 have q:=(zx A h).trans (jw b a);refine⟨?_,⟨y,?_,?_⟩,?_,?_⟩
 .have:=aq ho a (λg C=>by have:=(ar ho C).1;omega);unfold Row;rw[mn d,eP,ga,F,show(l.take k).length+[x].length=k+1 by simp;omega];exact this
 .rw[r];exact bA _ _ _ _ _ b
 .exact T4 q _ _ E
 .refine(hb.trans (h.below hb.size ?_)).trans (a.below (ku hb.size h.size) (by intro k d;omega));intro k d;have:=(ar A d).1;omega
 .have:=h.size;have:=a.size;omega
def PM(w:aa)(l:List Vc)(e:bo)(w':aa):Prop:=∃v,e=.returned (.tuple #[v,.bool true])/\Row w.heap.size w' v l/\Below w.heap.size w w'
theorem dM(l:List Vc)(c:Vc)(w:aa)(Z:eC w c l)(hl:l.length<=1000):
  cl 66 #[.agg c.c] w (PM w l):=by
 have HV:=ag Z;clear Z;unfold Vc.c;obtain⟨i0,hi,F,G,H⟩:=sv kh;have J:=ag (ei hi (ei F (ei G H)));clear hi F G H;go_enter func66,ntmps66;go_wp2
 go_loopw [4] (λv wr=>∃k,k<=l.length/\PO w l v wr k) (λv _=>l.length-TQ v)
 case atStart=>
  have hb:Below w.heap.size w (w.alloc (.cells c.c 96)):=aR _ _;exact⟨0,kc _,oh _ _ _ _,⟨c,fK _ _,T4 (T6 hb) _ _ HV.out⟩,hb,by simp⟩
 case round=>
  obtain⟨k,hk,b,⟨c1,hB,o⟩,hb,R⟩:=hrel;rcases P5 hk with hlt|rfl
  .rw[TM l k hlt] at o;obtain⟨g,y,rfl,D,V⟩:=o;obtain⟨x,S⟩:∃x,l[k]=x:=⟨_,rfl⟩;rw[S] at D;have b0:=kd hB 0 (Jn 5);have b3:=kd hB 3 (Pt g);have x0:=kd D 0 (Jn x.k);have x1:=kd D 1 (Jn x.n);have x2:=kd D 2 (.string x.s);have x3:=kd D 3 (.pointer x.p);have x4:=kd D 4 (.pointer x.f);have C:=ag b;have I:=ag hB;have HP:=ag D;have HT:=ag V;have L:=ag hb;have HX:=ag S;have E:(l.take k).length=k:=by simp;omega
   have N:=ag E;have T:(l.take k).length<=1000:=by omega
   clear b hB D V hb S E;go_wp2_with (at_builtin;refine nl _ rfl (.tmp 8) (.tmp 14) 65 rfl (w.heap.size+1) 96 i0 fm 5 48 underlying65 J.out.1 J.out.2.1 J.out.2.2.1 J.out.2.2.2 rfl (by decide) _ (l.take k).length (bw (l.take k)) rfl (C.out.alloc _) (dq wr.heap.size 0) 1 1 [Jn x.k,Jn x.n,.string x.s,.pointer x.p,.pointer x.f] rfl rfl (iO (fK _ _)) (by intro u X;simp at X;rcases X with rfl|rfl|rfl|rfl|rfl<;>rfl) (by decide) (by unfold maxLen;omega) (by omega) (by simp;omega) (wr.heap.size+1) (by simp) ?_);intro g1 h0 w1 r q h1 U;have A:=bC q;have a:=A.at I.out (λh=>by have:=(ar C.out h).1;omega);have d:=(zx C.out A).pair _ _ HP.out;have y0:=kd a 0 (Jn 5);have y1:=kd a 1 (Jn 0);have y2:=kd a 2 (.string ⟨#[]⟩);have y3:=kd a 3 (Pt g);have y4:=kd a 4 (.pointer none);have f0:=ah a 0;have f1:=ah a 1;have f2:=ah a 2;have f3:=ah a 3;have f4:=ah a 4;have x5:=kd d 5 (Jn y.k);have x6:=kd d 6 (Jn y.n);have x7:=kd d 7 (.string y.s);have x8:=kd d 8 (.pointer y.p);have x9:=kd d 9 (.pointer y.f);have K:=ag a;have Q:=ag A;have O:=ag r;clear a d A r q;go_wp2;go_roundw
   case rel=>exact⟨k+1,by omega,Fd hlt HX.out C.out K.out HT.out L.out R Q.out O.out _ rfl⟩
   case measure=>
    have:=N.out;rw[dg C.out];simp[TQ];omega
  .rw[RK] at o;have o:c1=cQ 4 0:=o;subst o;have b0:=kd hB 0 (Jn 4);have C:=ag b;have I:=ag hb;clear b hB hb;go_wp2
   go_quiet (fail)
   go_wp2;go_ret2;rw[xp] at C;exact⟨_,rfl,ba (aq C.out ((TU (λ_=>False) _).drewN _) (λ_ _ h=>h)) (by omega),I.out.trans (((TU (λ_=>False) _).drewN _).below I.out.size (λ_ h=>h.elim))⟩
theorem LR.at{w:aa}(h:LR w Y u cs){v:Vc}(hi:cs[i]? =some v):∃g b,u.a=some ⟨g,b,none⟩/\g<w.heap.size/\¬Y g/\w.cell? ⟨g,b+i *5,none⟩=some (Jn v.k)/\w.cell? ⟨g,b+i *5+1,none⟩=some (Jn v.n)/\w.cell? ⟨g,b+i *5+2,none⟩=some (.string v.s)/\w.cell? ⟨g,b+i *5+3,none⟩=some (.pointer v.p)/\w.cell? ⟨g,b+i *5+4,none⟩=some (.pointer v.f):=by
 have d:=(ke.1 hi).1;obtain⟨g,b,l,h1,h2,h3,c⟩:=h.2.2.2 (by omega);refine⟨g,b,h1,ai h2,h3,?_,?_,?_,?_,?_⟩<;>rw[ae h2]
 .exact c i v hi 0 _ rfl
 .exact c i v hi 1 _ rfl
 .exact c i v hi 2 _ rfl
 .exact c i v hi 3 _ rfl
 .exact c i v hi 4 _ rfl
theorem LR.below{w:aa}(h:LR w Y u cs)(hb:Below w.heap.size w w'):LR w' Y u cs:=h.ak λb a c=>⟨c,hb.block b a⟩
theorem Bp(s:ao):(⟨s.data.toList.toArray⟩:ao)=s:=by cases s;simp
def QR(w:aa)(cs:List Vc)(e:bo)(w':aa):Prop:=∃c:Vc,e=.returned (.agg c.c)/\eC w' c cs/\Below w.heap.size w w'
theorem Fk{w:aa}(v:j<cs.length)(C:cs[j]=x)(hR:wr.heap[w.heap.size]? =some z)(l:wr.heap[w.heap.size+1]? =some (.cells y.c 96))(d:eC wr y (cs.drop (j+1)))(hb:Below w.heap.size w wr)(A:w.heap.size+2<=wr.heap.size)(a:aa)(o:a=((dW wr (w.heap.size+1) (Jn 5) (Jn 0) (.string ⟨#[]⟩) (Pt wr.heap.size) (.pointer none)).alloc (.cells (x.c++y.c) 162)).drew):
  a.heap[w.heap.size]? =some z/\(∃c:Vc,a.heap[w.heap.size+1]? =some (Obj.cells c.c 96 (0,0))/\eC a c (cs.drop j))/\Below w.heap.size w a/\w.heap.size+2<=a.heap.size:=by
 have h:a.heap=((dW wr (w.heap.size+1) (Jn 5) (Jn 0) (.string ⟨#[]⟩) (Pt wr.heap.size) (.pointer none)).alloc (.cells (x.c++y.c) 162)).heap:=by rw[o];rfl
 have b:aB (λk=>k=w.heap.size+1) wr a:=by rw[o];exact((cU _ _ _ _ _ _ _).alloc _).drew
 have q:KR wr a:=jw l b;refine⟨b.at hR (by omega),⟨eg wr.heap.size,?_,?_⟩,(hb.trans (b.below (by omega) (by intro k q;omega))),by have:=b.size;omega⟩
 .rw[h];exact aw (bA _ _ _ _ _ l)
 .rw[TM cs j v];refine⟨wr.heap.size,y,rfl,?_,T4 q _ _ d⟩;have r:=fK (dW wr (w.heap.size+1) (Jn 5) (Jn 0) (.string ⟨#[]⟩) (Pt wr.heap.size) (.pointer none)) (.cells (x.c++y.c) 162);rw[uZ] at r;unfold gY;rw[h,C];exact r
theorem sB(w:aa)(u:Sl)(cs:List Vc)(Y:a9)(h:LR w Y u cs)(I:cs.length<=1002):cl 106 #[.slice u.a u.n u.c] w (QR w cs):=by
 have C:=ag h;have L:=h.1;rw[L];have D:=h.2.1;rw[L] at D;have h0:=h.2.2.1;clear h;go_enter func106,ntmps106;go_wp2;have H:((w.alloc (.cells #[Jn 0,Jn 0,.string ⟨#[]⟩,.pointer none,.pointer none] 96)).alloc (.cells #[Jn 4,Jn 0,.string ⟨#[]⟩,.pointer none,.pointer none] 96)).heap.size=w.heap.size+2:=by simp
 go_loopw [4] (λi wr=>∃k:Nat,k<=cs.length/\i=Jn ((k:Int)-1)/\wr.heap[w.heap.size]? =some (.cells (cQ 0 0).c 96 (0,0))/\
   (∃c:Vc,wr.heap[w.heap.size+1]? =some (.cells c.c 96 (0,0))/\eC wr c (cs.drop k))/\Below w.heap.size w wr/\w.heap.size+2<=wr.heap.size)
  (λi _=>(intOf i+1).toNat)
 case atStart=>
  refine⟨cs.length,ew _,rfl,?_,⟨cQ 4 0,?_,by rw[RK];rfl⟩,?_,by rw[H];omega⟩
  .exact aw (fK _ _)
  .have:=fK (w.alloc (.cells (cQ 0 0).c 96)) (.cells (cQ 4 0).c 96);rw[show(w.alloc (.cells (cQ 0 0).c 96)).heap.size=w.heap.size+1 by simp] at this;exact this
  .exact((aR _ _).alloc (by simp) _)
 case round=>
  obtain⟨k,hk,rfl,hR,⟨c,b,l⟩,hb,F⟩:=hrel;rcases Sd k with rfl|h2
  .have v0:=kd b 0 (Jn c.k);have v1:=kd b 1 (Jn c.n);have v2:=kd b 2 (.string c.s);have v3:=kd b 3 (.pointer c.p);have v4:=kd b 4 (.pointer c.f);have r0:=kd hR 0 (Jn 0);have r1:=kd hR 1 (Jn 0);have r2:=kd hR 2 (.string ⟨#[]⟩);have r3:=kd hR 3 (.pointer none);have r4:=kd hR 4 (.pointer none);have f0:=ah hR 0;have V:=ah hR 1;have X:=ah hR 2;have Z:=ah hR 3;have f4:=ah hR 4;have r:=ag hR;have A:=ag l;have q:=ag hb;clear hR b l hb;have hS:=bA (Jn c.k) (Jn c.n) (.string c.s) (.pointer c.p) (.pointer c.f) (r.out:wr.heap[w.heap.size]? =some (.cells #[Jn 0,Jn 0,.string ⟨#[]⟩,.pointer none,.pointer none] 96));have N:_=some (Jn c.k):=ae hS 0;have O:_=some (Jn c.n):=ae hS 1;have Q:_=some (Value.string c.s):=ae hS 2;have R:_=some (Value.pointer c.p):=ae hS 3;have S:_=some (Value.pointer c.f):=ae hS 4;clear hS;unfold dW at N O Q R S;go_wp2;refine ff (v:=.agg c.c) (by simp[results,results106,go_sem,Vc.c,N,O,Q,R,S]) rfl ⟨_,rfl,?_,?_⟩
   .exact T4 (jw r.out (cU wr w.heap.size (Jn c.k) (Jn c.n) (.string c.s) (.pointer c.p) (.pointer c.f))) _ _ A.out
   .exact q.out.trans ((cU wr w.heap.size (Jn c.k) (Jn c.n) (.string c.s) (.pointer c.p) (.pointer c.f)).below q.out.size (by intro k hk;omega))
  .obtain⟨j,rfl⟩:∃j,k=j+1:=⟨k-1,by omega⟩;obtain⟨x,G⟩:∃x,cs[j]=x:=⟨_,rfl⟩;obtain⟨g,d,E,o,_,s0,s1,s2,s3,s4⟩:=C.out.at (i:=j) (v:=x) (by rw[fA (by omega),G]);rw[<-hb.cell (p:=⟨g,d+j *5,none⟩) o] at s0;rw[<-hb.cell (p:=⟨g,d+j *5+1,none⟩) o] at s1;rw[<-hb.cell (p:=⟨g,d+j *5+2,none⟩) o] at s2;rw[<-hb.cell (p:=⟨g,d+j *5+3,none⟩) o] at s3;rw[<-hb.cell (p:=⟨g,d+j *5+4,none⟩) o] at s4;have v0:=kd b 0 (Jn c.k);have v1:=kd b 1 (Jn c.n);have v2:=kd b 2 (.string c.s);have v3:=kd b 3 (.pointer c.p);have v4:=kd b 4 (.pointer c.f);have f0:=ah b 0;have V:=ah b 1;have X:=ah b 2;have Z:=ah b 3;have f4:=ah b 4;have r:=ag hR;have T:=ag b;have A:=ag l;have q:=ag hb;have U:=ag G;clear hR b l hb G;have K:w.heap.size+1<wr.heap.size:=by omega
   have J:w.heap.size<wr.heap.size:=by omega
   have h1:j<cs.length:=by omega
   rw[E];go_wp2;go_region;go_wp2;go_roundw
   case rel=>
    have:=Fk (by omega) U.out r.out T.out A.out q.out F _ rfl;exact⟨j,by omega,rfl,this⟩
   case measure=>simp[intOf]
def Iz:List Vc->au
 |[]=>[]
 |c::_=>if c.k=3/\l7 c.s.data.toList=true then c.s.data.toList else []
theorem OI{c:Vc}(h1:c.k=3)(h2:l7 c.s.data.toList=true):Iz (c::cs)=c.s.data.toList:=fN ⟨h1,h2⟩
theorem BY{c:Vc}(h:N8 c):Iz (c::cs)=[]:=fb (λe=>by
 rcases h with h|h
 .exact h e.1
 .rw[h] at e;exact absurd e.2 (by decide))
theorem gL(w:aa)(Y:a9)(u:Sl)(cs:List Vc)(h:LR w Y u cs):cl 67 #[.slice u.a u.n u.c] w (bD (.string ⟨(Iz cs).toArray⟩) w):=by
 have A:=h.1;rw[A]
 match cs,h with
 |[],h=>
  clear h;go_enter func67,ntmps67;go_wp2;go_ret;exact⟨rfl,rfl⟩
 |c::cs,h=>
  obtain⟨g,E,q,F,_,c0,_,c2,_,_⟩:=h.at (i:=0) (v:=c) rfl;rw[v7,rn] at c0 c2;rw[q];have r:(0:Int)<((c::cs).length:Int):=by simp
  generalize (c::cs).length=ln at *
  have D:0<ln:=by omega
  clear h A;by_cases l:(c.k==3)=true
  .have d:c.k=3:=by simpa using l
   cases hkw:l7 c.s.data.toList with
   |true=>
    have b:=ag hkw;have o:=ag d;clear d;go_enter func67,ntmps67;go_wp2_with (go_at_call 109;refine(fd _ _).mono ?_;rintro e w' ⟨rfl,rfl⟩);go_ret;refine⟨?_,rfl⟩;rw[OI o.out b.out,Bp];rfl
   |false=>
    have b:=ag hkw;clear d;go_enter func67,ntmps67;go_wp2_with (go_at_call 109;refine(fd _ _).mono ?_;rintro e w' ⟨rfl,rfl⟩);go_ret;refine⟨?_,rfl⟩;rw[BY (.inr b.out)];rfl
  .have l:(c.k==3)=false:=by simpa using l
   have C:=ag (show ¬c.k=3 by simpa using l);go_enter func67,ntmps67;go_wp2;go_ret;refine⟨?_,rfl⟩;rw[BY (.inl C.out)];rfl
structure Fc where
 names:Sl
 vals:Sl
 up:a8
def Fc.c(f:Fc):bc:= #[.slice f.names.a f.names.n f.names.c,.slice f.vals.a f.vals.n f.vals.c,.pointer f.up]
def fp(w:aa)(g:Nat)(f:Fc):Prop:=w.heap[g]? =some (Obj.cells f.c 229 (0,0))
def Rg(w:aa)(u:Sl)(ns:List au):Prop:=u.n=ns.length/\∀(i:Nat) (s:au),ns[i]? =some s->∃g,u.a=eb g/\w.cell? ⟨g,i,none⟩=some (.string ⟨s.toArray⟩)
def Pu(mf:Nat->Option Nat)(i:Nat):Option Nat->a8->Prop
 |none,a=>a=none
 |some j,a=>j<i/\FP mf j a
def Rf(w:aa)(mf:Nat->Option Nat)(frs:List XF):Prop:=∀(i:Nat) (fr:XF),frs[i]? =some fr->∃g f,mf i=some g/\fp w g f/\Rg w f.names fr.ns/\fr.ns.length<=1000000/\Pu mf i fr.out f.up/\∀j,fr.out=some j->j<frs.length
def GA(w:aa)(mf:Nat->Option Nat)(r:Option (Nat×Nat))(e:bo)(w':aa):Prop:=w'=w/\match r with
 |none=>e=.returned (.tuple #[.pointer none,.int .i64 0])
 |some (f,i)=>∃g,mf f=some g/\e=.returned (.tuple #[.pointer (some ⟨g,0,none⟩),.int .i64 i])
def Et(w:aa)(mf:Nat->Option Nat)(frs:List XF)(s:au)(r:Option (Nat×Nat))(v:al)(n:Nat):Prop:=
 (v=.pointer none/\r=none/\n=0)\/∃f g,f<frs.length/\mf f=some g/\v=Pt g/\eG frs (f+1) f s=r/\n=f+1
theorem uy{l:List au}(h:∀i (hi:i<l.length),l[i]≠s):dE l s=none:=by
 unfold dE;rw[fb];rw[RJ];intro a;obtain⟨i,hi,b⟩:=Tf (by simpa using a);exact h i hi b
theorem uz{l:List au}(hi:i<l.length)(c:l[i]=s)(h:∀j (d:j<i),l[j]'(by omega)≠s):dE l s=some i:=by
 unfold dE;have hm:s∈l:=c▸Sj hi;rw[fN (by rw[RJ];simpa using hm)]
 congr 1
 have h1:l.idxOf s<l.length:=Sv hm;have h2:l[l.idxOf s]=s:=Tj h1;rcases Nat.lt_trichotomy (l.idxOf s) i with hlt|a|b
 .exact absurd h2 (h _ hlt)
 .exact a
 .exfalso;have h3:=List.not_of_lt_findIdx (p:=(· ==s)) (xs:=l) b;rw[c] at h3;simp at h3
theorem rF(hf:∀(i:Nat) (fr:XF),frs[i]? =some fr->∀j,fr.out=some j->j<i)(s:au):∀(f k:Nat),f<k->eG frs k f s=eG frs (f+1) f s
 |f,0,h=>by omega
 |f,k+1,h=>by
  simp only[eG];cases hfr:frs[f]? with
  |none=>rfl
  |some fr=>
   simp only;cases hi:dE fr.ns s with
   |some i=>rfl
   |none=>
    simp only;cases ho:fr.out with
    |none=>rfl
    |some g=>
     have a:=hf f fr hfr g ho;simp only;rw[rF hf s g k (by omega),rF hf s g f (by omega)]
 termination_by f=>f
theorem uH(h:∃k,P k):∃k,P k/\∀j,P j->k<=j:=by
 obtain⟨k,b⟩:=h;induction k using Nat.strongRecOn with
 |_ k c=>
  by_cases a:∃j,j<k/\P j
  .obtain⟨j,hlt,hp⟩:=a;exact c j hlt hp
  .exact⟨k,b,λj hp=>by
    rcases sb j k with h|h
    .exact absurd ⟨j,h,hp⟩ a
    .exact h⟩
open Classical in
noncomputable def kN(P:a9):Nat:=if h:∃k,P k then Classical.choose (uH h) else 0
theorem iN(h:∃k,P k):P (kN P)/\∀j,P j->kN P<=j:=by
 unfold kN;rw[S3 h];exact SE (uH h)
theorem Kw{z y:ao}(b:z=⟨t.toArray⟩)(a:y=⟨s.toArray⟩):(z.toList==y.toList)=(t==s):=by
 subst b a;rw[C3,C3]
theorem EZ{fr:XF}(h:frs[f]? =some fr)(hi:dE fr.ns s=some k):eG frs (f+1) f s=some (f,k):=by
 simp only[eG,h,hi]
theorem BU{fr:XF}(h:frs[f]? =some fr)(hi:dE fr.ns s=none):eG frs (f+1) f s=match fr.out with
  |none=>none
  |some g=>eG frs f g s:=by
 simp only[eG,h,hi];cases fr.out<;>rfl
theorem Am(w:aa)(mf:Nat->Option Nat)(frs:List XF)(f:Nat)(a:a8)(s:au)(hf:f<frs.length)(ha:FP mf f a)(h:Rf w mf frs):
  cl 178 #[.pointer a,.string ⟨s.toArray⟩] w (GA w mf (eG frs (f+1) f s)):=by
 have hlt:∀(i:Nat) (fr:XF),frs[i]? =some fr->∀j,fr.out=some j->j<i:=λi fr hi j E=>by
  obtain⟨g,fc,_,_,_,_,o,_⟩:=h i fr hi;rw[E] at o;exact o.1
 obtain⟨r,l⟩:∃r,r=eG frs (f+1) f s:=⟨_,rfl⟩;rw[<-l];obtain⟨g0,O,rfl⟩:=ha;have H0:Hid (Et w mf frs s r (Pt g0) (f+1)):=.inr ⟨f,g0,hf,O,rfl,l.symm,rfl⟩;have Q:=ag h;have S:=ag hlt;clear h hlt l O hf;obtain⟨y,hy⟩:∃y:ao,y=⟨s.toArray⟩:=⟨_,rfl⟩;rw[<-hy];have HY:=ag hy;clear hy;go_enter func178,ntmps178;go_wp2
 go_loopw [0,4,5,6] (λv u4 u5 u6 wr=>wr=w/\∃n,Et w mf frs s r v n) (λv _ _ _ wr=>kN (λn=>Et w mf frs s r v n))
 case atStart=>exact⟨rfl,_,H0.out⟩
 case round=>
  clear H0;obtain⟨d,N⟩:=hrel;obtain rfl:w=wr:=d.symm;obtain⟨A,G⟩:=iN N;obtain⟨n,C⟩:∃n,kN (λn=>Et w mf frs s r u0 n)=n:=⟨_,rfl⟩;rw[C] at A;have HN:=ag C;clear N G C d;rcases A with⟨rfl,l,rfl⟩|⟨f,g,hf,F,rfl,l,rfl⟩
  .have V:=ag l;clear l;go_wp2;go_ret2;refine⟨rfl,?_⟩;rw[V.out];rfl
  .obtain⟨fr,D⟩:∃fr,frs[f]? =some fr:=⟨frs[f],fA hf⟩;obtain⟨g',fc,e1,X,Z,h5,hU,hO⟩:=Q.out f fr D;rw[F] at e1;cases e1;have k0:=kd X 0 (.slice fc.names.a fc.names.n fc.names.c);have k2:=kd X 2 (.pointer fc.up);rw[Z.1] at k0;have HT:=ag Z;have HR:=ag l;have K:=ag (ei hU hO);have H:=ag D;have T:=ag F;clear X Z l hU hO D F;go_wp2
   go_loopw [4,5,6] (λu4 u5 i wr=>wr=w/\∃k:Nat,k<=fr.ns.length/\i=Jn k/\∀j (E:j<fr.ns.length),j<k->fr.ns[j]≠s) (λ_ _ i _=>fr.ns.length-(intOf i).toNat)
   case atStart=>exact⟨rfl,0,kc _,rfl,λj _ E=>by omega⟩
   case round=>
    obtain⟨d,k,hk,rfl,q⟩:=hrel;obtain rfl:w=wr:=d.symm;have b:=ag q;clear q d;by_cases hlt:k<fr.ns.length
    .obtain⟨gn,ega,cn⟩:=HT.out.2 k fr.ns[k] (fA hlt);obtain⟨z,hz⟩:∃z:ao,z=⟨fr.ns[k].toArray⟩:=⟨_,rfl⟩;rw[<-hz] at cn;rw[ega] at k0;have h7:(k:Int)<(fr.ns.length:Int):=by omega
     have J:=ag (Kw hz HY.out);clear hz;cases hss:(z.toList==y.toList) with
     |true=>
      have R:Hid (r=some (f,k)):=by
       show r=_;rw[<-HR.out];refine EZ H.out (uz hlt (by have:=J.out;rw[hss] at this;simpa using this.symm) (λj E=>b.out j (by omega) E))
      go_wp2;go_ret2;refine⟨rfl,?_⟩;rw[R.out];exact⟨g,T.out,rfl⟩
     |false=>
      have U:Hid (fr.ns[k]≠s):=by
       intro e;have:=J.out;rw[hss,e] at this;simp at this
      go_wp2;go_roundw
      case rel=>
       refine⟨by first|rfl|trivial,k+1,by omega,by go_num,λj E h6=> ?_⟩;rcases sb j k with h1|h1
       .exact b.out j E h1
       .have:j=k:=by omega
        subst this;exact U.out
      case measure=>simp[intOf];omega
    .have h4:k=fr.ns.length:=by omega
     subst h4;have I:Hid (∃n,n<f+1/\Et w mf frs s r (.pointer fc.up) n):=by
      have L:=HR.out;rw[BU H.out (uy λi hi=>b.out i hi hi)] at L;have o:=K.out.1;cases ho:fr.out with
      |none=>
       rw[ho] at L o;have o:fc.up=none:=o;exact⟨0,by omega,.inl ⟨by rw[o],L.symm,rfl⟩⟩
      |some j=>
       rw[ho] at L o;obtain⟨h1,gj,h2,h3⟩:=o;refine⟨j+1,by omega,.inr ⟨j,gj,K.out.2 j ho,h2,by rw[h3],?_,rfl⟩⟩;rw[<-L];exact(rF S.out s j f h1).symm
     go_wp2;go_roundw
     case rel=>
      obtain⟨n,_,C⟩:=I.out;exact⟨by first|rfl|trivial,n,C⟩
     case measure=>
      obtain⟨n,h1,C⟩:=I.out;have:=(iN (P:=λn=>Et w mf frs s r (.pointer fc.up) n) ⟨n,C⟩).2 n C;rw[HN.out];omega
def vP(b:Bool):Vc:=cQ 2 (if b then 1 else 0)
theorem xu(w:aa)(b:Bool):cl 218 #[.bool b] w (λe w'=>e=.returned (.agg (vP b).c)/\Below w.heap.size w w'):=by
 cases b with
 |true=>
  go_enter func218,ntmps218;go_wp2;refine ff (R3 rfl _ _ w.heap.size 96 (vP true).c (0,0) _ rfl (fK _ _) underlying96 rfl (by kernel_rfl)) rfl ?_;exact⟨rfl,aR _ _⟩
 |false=>
  go_enter func218,ntmps218;go_wp2;refine ff (R3 rfl _ _ w.heap.size 96 (vP false).c (0,0) _ rfl (fK _ _) underlying96 rfl (by kernel_rfl)) rfl ?_;exact⟨rfl,aR _ _⟩
theorem ej(h:aP[k]? =some s):k<14:=by
 have:=(ke.1 h).1;exact this
theorem oO(w:aa)(k:Nat)(s:au)(h:aP[k]? =some s):cl 189 #[.string ⟨s.toArray⟩] w (bD (Jn (eD k:Nat)) w):=by
 have b:=ej h;have a:k=0\/k=1\/k=2\/k=3\/k=4\/k=5\/k=6\/k=7\/k=8\/k=9\/k=10\/k=11\/k=12\/k=13:=by omega
 rcases a with rfl|rfl|rfl|rfl|rfl|rfl|rfl|rfl|rfl|rfl|rfl|rfl|rfl|rfl
 all_goals
  cases h;go_enter func189,ntmps189;go_wp2;go_ret;exact⟨rfl,rfl⟩
def ci(a b:Vc):Bool:=a.k==b.k&&(a.n==b.n&&(a.s.toList==b.s.toList&&(decide (a.p=b.p)&&decide (a.f=b.f))))
def jD(w:aa)(p:a8):Prop:=p=none\/∃g c T,p=eb g/\w.heap[g]? =some (Obj.cells c T (0,0))
theorem jD.below{w:aa}(h:jD w p)(hb:Below w.heap.size w w'):jD w' p:=by
 rcases h with h|⟨g,c,T,h1,h2⟩
 .exact .inl h
 .exact .inr ⟨g,c,T,h1,(hb.block g (ai h2)).trans h2⟩
theorem ptr_eq(hp:prog.underlying tp=some (.pointer te))(d:prog.underlying tp=some (.pointer (prog.pointee tp)))(v:(prog.info? te).map (λi=>decide (i.size=0))=some false)(b:∀a w,(Go.binOp .eql tp (.pointer none) (.pointer (some a))).run prog w=.ok (.bool false) w){w:aa}{q:a8}(h1:jD w p)(h2:jD w q):
  (Go.binOp .eql tp (.pointer p) (.pointer q)).run prog w=.ok (.bool (decide (p=q))) w:=by
 obtain⟨j,l,c⟩:=S5.1 v;rcases h2 with rfl|⟨k,C,E,rfl,r⟩
 .rw[run_eql_pointer_nil w tp p d];cases p<;>simp
 .rcases h1 with rfl|⟨g,A,D,rfl,o⟩
  .rw[b];simp
  .by_cases e:g=k
   .subst e;rw[run_eql_ptr_same w (dq g 0) hp l];simp
   .rw[run_eql_ptr_other w hp l (by simpa using c) (by intro h;injection h with h1;exact e h1) o r];simp[e]
theorem MJ{w:aa}{q:a8}(h1:jD w p)(h2:jD w q):(Go.binOp .eql 93 (.pointer p) (.pointer q)).run prog w=.ok (.bool (decide (p=q))) w:=
 ptr_eq (tp:=93) (te:=162) (by kernel_rfl) (by kernel_rfl) (by kernel_rfl) (λa w=>by kernel_rfl) h1 h2
theorem MO{w:aa}{q:a8}(h1:jD w p)(h2:jD w q):(Go.binOp .eql 94 (.pointer p) (.pointer q)).run prog w=.ok (.bool (decide (p=q))) w:=
 ptr_eq (tp:=94) (te:=307) (by kernel_rfl) (by kernel_rfl) (by kernel_rfl) (λa w=>by kernel_rfl) h1 h2
theorem JS(w:aa)(a b:Vc)(D:jD w a.p)(E:jD w b.p)(A:jD w a.f)(C:jD w b.f):cl 219 #[.agg a.c,.agg b.c] w (λe w'=>e=.returned (.bool (ci a b))/\Below w.heap.size w w'):=by
 have h:Hid (∀o1 o2:Obj,Below w.heap.size w ((w.alloc o1).alloc o2)):=λo1 o2=>((fL _ w).alloc (ew _) _).alloc (by simp) _;have G:=MJ (D.below (h.out (.cells a.c 96) (.cells b.c 96))) (E.below (h.out _ _));have F:=MO (A.below (h.out (.cells a.c 96) (.cells b.c 96))) (C.below (h.out _ _));clear D E A C;unfold Vc.c at *;obtain⟨I,r⟩:∃q,q=decide (a.p=b.p):=⟨_,rfl⟩;obtain⟨H,o⟩:∃q,q=decide (a.f=b.f):=⟨_,rfl⟩;rw[<-r] at G;rw[<-o] at F;have l:=ag r;have v:=ag o;clear r o;cases hk:(a.k==b.k) with
 |false=>
  have d:Hid (ci a b=false):=by show ci a b=false;simp[ci,hk]
  go_enter func219,ntmps219;go_wp2;go_ret;exact⟨by rw[d.out];rfl,h.out _ _⟩
 |true=>
  cases hn:(a.n==b.n) with
  |false=>
   have d:Hid (ci a b=false):=by show ci a b=false;simp[ci,hk,hn]
   go_enter func219,ntmps219;go_wp2;go_ret;exact⟨by rw[d.out];rfl,h.out _ _⟩
  |true=>
   cases hs:(a.s.toList==b.s.toList) with
   |false=>
    have d:Hid (ci a b=false):=by show ci a b=false;simp[ci,hk,hn,hs]
    go_enter func219,ntmps219;go_wp2;go_ret;exact⟨by rw[d.out];rfl,h.out _ _⟩
   |true=>
    cases I with
    |true=>
     cases H with
     |true=>
      have d:Hid (ci a b=true):=by show ci a b=true;simp only[ci,hk,hn,hs,<-l.out,<-v.out];rfl
      go_enter func219,ntmps219;go_wp2;go_ret;exact⟨by rw[d.out];rfl,h.out _ _⟩
     |false=>
      have d:Hid (ci a b=false):=by show ci a b=false;simp only[ci,hk,hn,hs,<-l.out,<-v.out];rfl
      go_enter func219,ntmps219;go_wp2;go_ret;exact⟨by rw[d.out];rfl,h.out _ _⟩
    |false=>
     have d:Hid (ci a b=false):=by show ci a b=false;simp only[ci,hk,hn,hs,<-l.out];rfl
     go_enter func219,ntmps219;go_wp2;go_ret;exact⟨by rw[d.out];rfl,h.out _ _⟩
def jb(w:aa)(M:Nat)(m:Rm)(k:Kc)(c:Vc)(d:Nat)(e:bo)(w':aa):Prop:=if d<200 then NJ w M m k c d e w' else MU w M {m with st:=2,er:=9} e w'
theorem eu(w:aa)(M:Nat)(m:Rm)(k:Kc)(c:Vc)(d:Nat)(h:aI w M m)(b:cL w m.ch d):cl 181 #[Pt M,.agg k.c,.agg c.c] w (jb w M m k c d):=by
 by_cases a:d<200
 .exact(FR w M m k c d a h b).mono λe w' h=>by unfold jb;rw[fN a];exact h
 .exact(CR w M m k c d (by omega) h b).mono λe w' h=>by unfold jb;rw[fb a];exact h
theorem jb.ret{w:aa}{k:Kc}{c:Vc}{d:Nat}(h:jb w M m k c d e w'):e=.returned (.tuple #[]):=by
 unfold jb at h;split at h
 .exact h.1
 .exact h.1
def ft(w:aa)(M:Nat)(m:Rm)(k:Kc)(c:Vc)(d:Nat)(w':aa):Prop:=if d<200 then(∃g,w.heap.size<=g/\di w' g {k with fr:=m.fr,next:=m.ch,deep:=(d:Int)+1}/\aI w' M {m with ch:=eb g,mode:=1,v:=c}/\aB (λk=>k=M) w w') else aI w' M {m with st:=2,er:=9}/\aB (λk=>k=M) w w'
theorem jb.b{w:aa}{k:Kc}{c:Vc}{d:Nat}(h:jb W M m k c d e w')(l:aB (λk=>k=M) w W):ft w M m k c d w':=by
 unfold jb at h;unfold ft;split at h
 .rename_i a
  rw[fN a];exact⟨W.heap.size,l.size,h.2.1,h.2.2.1,l.trans h.2.2.2 (λ_ _ h=>h)⟩
 .rename_i a
  rw[fb a];exact⟨h.2.1,l.trans h.2.2 (λ_ _ h=>h)⟩
def cA(P:aa->Prop)(e:bo)(w':aa):Prop:=e=.returned (.tuple #[])/\P w'
def ef:Sl:=⟨none,0,0⟩
theorem sE(w:aa)(M:Nat)(m:Rm)(Y:a9)(u:Sl)(c:Vc)(f:a8)(h:aI w M m)(b:LR w Y u [c]):cl 184 #[Pt M,.slice u.a u.n u.c,.pointer f] w (MU w M {m with mode:=1,v:=c,fr:=f}):=by
 obtain⟨g,q,d,G,_,r,A,C,D,E⟩:=b.at (i:=0) (v:=c) rfl;rw[v7,rn] at r A C D E;have o:u.n=1:=b.1;have F:1<=u.c:=by have:=b.2.1;omega
 rw[d,o];have l:=ag (ij w M m c f h);clear h b;go_enter func184,ntmps184;go_wp2_with fail;refine l.out.mono ?_;rintro e w1 ⟨rfl,h1,h2⟩;have HM:=ag (ei h1 h2);clear h1 h2;go_wp2;refine TT ?_;exact⟨rfl,HM.out.1,HM.out.2⟩
theorem oP(w:aa)(M:Nat)(m:Rm)(Y:a9)(u:Sl)(c c2:Vc)(cs:List Vc)(f:a8)(d:Nat)(h:aI w M m)(q:LR w Y u (c::c2::cs))(H:Y M)(C:cL w m.ch d):cl 184 #[Pt M,.slice u.a u.n u.c,.pointer f] w (cA (ft w M {m with fr:=f} ⟨4,⟨#[]⟩,u,ef,none,none,0⟩ c d)):=by
 obtain⟨g,L,o,T,r,N,O,Q,R,S⟩:=q.at (i:=0) (v:=c) rfl;rw[v7,rn] at N O Q R S;have E:u.n=cs.length+2:=q.1;have I:u.n<=u.c:=q.2.1;have J:g≠M:=λe=>r (e▸H);have k10:=kd h 10 (.pointer m.fr);have D:=h.fz 10;have h1:aI (w.setCell ⟨M,10,none⟩ (.pointer f)) M {m with fr:=f}:=bE (TH h) (by kernel_rfl);have l:aB (λk=>k=M) w (w.setCell ⟨M,10,none⟩ (.pointer f)):=(TU _ _).aY;have A:=ag (eu (w.setCell ⟨M,10,none⟩ (.pointer f)) M {m with fr:=f} ⟨4,⟨#[]⟩,u,ef,none,none,0⟩ c d h1 (C.upd h l));have G:=ag l;obtain⟨U,un,V⟩:=u;simp only at o E I;subst o;have K:¬((un:Int)=1):=by omega
 have F:(0:Int)<(un:Int):=by omega
 clear h q h1 l C E;unfold Kc.c Vc.c ef at A;go_enter func184,ntmps184;go_wp2_with fail;refine A.out.mono ?_;intro e w1 h1;obtain rfl:=h1.ret;have HM:=ag (h1.b G.out);clear h1;go_wp2;refine TT ?_;exact⟨rfl,HM.out⟩
theorem LR.flat{w:aa}(h:LR w Y u cs)(hp:0<cs.length):∃g b,u.a=some (dq g b)/\g<w.heap.size/\¬Y g/\∀(j:Nat) x,(bw cs)[j]? =some x->w.cell? (Addr.add (dq g b) j)=some x:=by
 obtain⟨g,b,D,h1,h2,h3,A⟩:=h.2.2.2 hp;refine⟨g,b,h1,ai h2,h3,λj x r=> ?_⟩;have C:=(ke.1 r).1;rw[eX] at C;have hi:j/5<cs.length:=by omega
 obtain⟨v,q⟩:∃v,cs[j/5]? =some v:=⟨cs[j/5],fA hi⟩;have l:v.c.size=5:=rfl;have hlt:j%5<v.c.size:=by rw[l];omega
 have d:=cC cs (j/5) v q (j%5) v.c[j%5] (by simp[hlt]);rw[show j/5 *5+j%5=j by omega] at d;rw[r] at d;have o:=A (j/5) v q (j%5) v.c[j%5] (by simp[hlt]);rw[show Addr.add (dq g b) j=(dq g (b+j)) by simp[Addr.add],ae h2];rw[show b+j/5 *5+j%5=b+j by omega] at o;rw[o,<-d]
theorem kS(cs:List Vc):∀x∈bw cs,x.oneCell'=true:=by
 intro x b;simp only[bw,List.mem_flatMap] at b;obtain⟨c,_,a⟩:=b;simp[Vc.c] at a;rcases a with rfl|rfl|rfl|rfl|rfl<;>rfl
theorem l8(c:Vc):∀u∈[Jn c.k,Jn c.n,.string c.s,.pointer c.p,.pointer c.f],u.oneCell'=true:=by
 intro u a;simp at a;rcases a with rfl|rfl|rfl|rfl|rfl<;>rfl
def PD(w:aa)(M:Nat)(m:Rm)(vs:List Vc)(w':aa):Prop:=∃u:Sl,Row w.heap.size w' (.slice u.a u.n u.c) vs/\aI w' M {m with mode:=3,args:=u}/\aB (λk=>k=M) w w'
theorem Row.upd{w:aa}{v:al}(h:Row B w v cs)(c:M<B)(b:aB (λk=>k=M) w w'):Row B w' v cs:=aq h b (λg a e=>by have:=(ar h a).1;omega)
theorem FE(w:aa)(M g:Nat)(m:Rm)(k:Kc)(Y:a9)(vs:List Vc)(h:aI w M m)(O:di w g k)(U:LR w Y k.vals vs)(h0:vs=[]->k.vals=⟨none,0,0⟩)(hl:k.l.n=vs.length+1)(hb:vs.length<=1001):cl 188 #[Pt M,Pt g] w (cA (PD w M m (vs++[m.v]))):=by
 have I:=h.lt;have ha:=ai O;have c2:=kd O 2 (.slice k.l.a k.l.n k.l.c);have c4:=kd O 4 (.slice k.vals.a k.vals.n k.vals.c);have k4:=kd h 4 (Jn m.mode);have k5:=kd h 5 (Jn m.v.k);have k6:=kd h 6 (Jn m.v.n);have k7:=kd h 7 (.string m.v.s);have k8:=kd h 8 (.pointer m.v.p);have k9:=kd h 9 (.pointer m.v.f);obtain⟨i0,hi,h2,h3,h4⟩:=sv kh;have D:=ag (ei hi (ei h2 (ei h3 h4)));have HH:=ag h;have Q:=ag O;have HV:=ag U;have N:=U.1;have HL:=ag hl;clear hi h2 h3 h4;rw[N] at c4;rw[hl] at c2;by_cases hv:vs=[]
 .subst hv;rw[h0 rfl] at c4;clear h O U h0 N hl;go_enter func188,ntmps188;go_wp2_with (at_builtin;refine nl _ rfl (.tmp 11) (.tmp 16) 65 rfl w.heap.size 96 i0 fm 5 48 underlying65 D.out.1 D.out.2.1 D.out.2.2.1 D.out.2.2.2 rfl (by decide) _ 0 [] rfl (oh _ _ _ _) (dq w.heap.size 0) 1 1 [Jn m.v.k,Jn m.v.n,.string m.v.s,.pointer m.v.p,.pointer m.v.f] rfl rfl (iO (fK _ _)) (l8 m.v) (by decide) (by unfold maxLen;omega) (by omega) (by simp) (w.heap.size+1) (by simp) ?_);intro R cap2 E o d L h1;have q:aB (λ_=>False) w E:=T2 ((TU _ w).alloc _) d (λk hk _=>by cases hk);have b:aI E M m:=q.at HH.out (λh=>h);have F:di E g k:=q.at Q.out (λh=>h);have H:aB (λk=>k=M) w E:=q.mono (λ_ h=>h.elim);clear q d L;have q4:=kd b 4 (Jn m.mode);have q12:=kd b 12 (.slice m.args.a m.args.n m.args.c);have qf:=b.fz;have d2:E.cell? (dq g 2)=some (.slice k.l.a (([]:List Vc).length+1) k.l.c):=by rw[<-HL.out];exact ae F 2
  have T:=b.lt;have K:=ag (ei o (ei b H));clear o b F H;go_wp2;refine TT ?_;refine⟨rfl,⟨eb R,([]:List Vc).length+1,cap2⟩,?_,bE (TH (TH K.out.2.1)) (by kernel_rfl),K.out.2.2.aY.aY⟩;have hr:Row w.heap.size E (.slice (eb R) (([]:List Vc).length+1) cap2) ([]++[m.v]):=by
   unfold Row;rw[eP,ga];exact K.out.1
  exact(hr.upd I (TU _ _).aY).upd I (TU _ _).aY
 .obtain⟨gv,h7,Z,hc,h9,X⟩:=U.flat (by
   cases vs with
   |nil=>exact absurd rfl hv
   |cons=>simp)
  rw[Z] at c4;have h6:0<vs.length:=by
   cases vs with
   |nil=>exact absurd rfl hv
   |cons=>simp
  have h5:=ag X;clear h O U h0 N hl X Z;go_enter func188,ntmps188;go_wp2_with (at_builtin;refine nl _ rfl (.tmp 5) (.tmp 9) 65 rfl w.heap.size 96 i0 fm 5 48 underlying65 D.out.1 D.out.2.1 D.out.2.2.1 D.out.2.2.2 rfl (by decide) _ 0 [] rfl (oh _ _ _ _) (dq gv h7) vs.length _ (bw vs) rfl (eX vs) h5.out (kS vs) h6 (by unfold maxLen;omega) (by omega) (ew _) w.heap.size rfl ?_);intro g1 cap1 w1 G C V h1;have q:aB (λ_=>False) w w1:=T2 (TU _ w) C (λk hk _=>by cases hk);have A:aI w1 M m:=q.at HH.out (λh=>h);have S:di w1 g k:=q.at Q.out (λh=>h);have p5:=kd A 5 (Jn m.v.k);have p6:=kd A 6 (Jn m.v.n);have p7:=kd A 7 (.string m.v.s);have p8:=kd A 8 (.pointer m.v.p);have p9:=kd A 9 (.pointer m.v.f);have hd:=q.size;have r:=ag (ei G (ei A (ei S q)));clear G A S q C V;go_wp2_with (at_builtin;refine nl _ rfl (.tmp 11) (.tmp 16) 65 rfl w.heap.size 96 i0 fm 5 48 underlying65 D.out.1 D.out.2.1 D.out.2.2.1 D.out.2.2.2 rfl (by decide) _ vs.length (bw vs) rfl (r.out.1.alloc _) (dq w1.heap.size 0) 1 1 [Jn m.v.k,Jn m.v.n,.string m.v.s,.pointer m.v.p,.pointer m.v.f] rfl rfl (iO (fK _ _)) (l8 m.v) (by decide) (by unfold maxLen;omega) (by omega) (by simp;omega) (w1.heap.size+1) (by simp) ?_);intro R cap2 E o d L h8;have J:=bC d;have b:aI E M m:=J.at r.out.2.1 (λh=>by have:=(ar r.out.1 h).1;omega);have F:di E g k:=J.at r.out.2.2.1 (λh=>by have:=(ar r.out.1 h).1;omega);have H:aB (λk=>k=M) w E:=(r.out.2.2.2.mono (λ_ h=>h.elim)).trans J (λj hj h=>by have:=(ar r.out.1 h).1;omega);clear J d L;have q4:=kd b 4 (Jn m.mode);have q12:=kd b 12 (.slice m.args.a m.args.n m.args.c);have qf:=b.fz;have d2:E.cell? (dq g 2)=some (.slice k.l.a (vs.length+1) k.l.c):=by rw[<-HL.out];exact ae F 2
  have T:=b.lt;have K:=ag (ei o (ei b H));clear o b F H;go_wp2;refine TT ?_;refine⟨rfl,⟨eb R,vs.length+1,cap2⟩,?_,bE (TH (TH K.out.2.1)) (by kernel_rfl),K.out.2.2.aY.aY⟩;have hr:Row w.heap.size E (.slice (eb R) (vs.length+1) cap2) (vs++[m.v]):=by
   unfold Row;rw[eP,ga];exact K.out.1
  exact(hr.upd I (TU _ _).aY).upd I (TU _ _).aY
def PE(w:aa)(M:Nat)(m:Rm)(k:Kc)(vs:List Vc)(x:Vc)(d:Nat)(w':aa):Prop:=∃u:Sl,Row w.heap.size w' (.slice u.a u.n u.c) vs/\ft w M {m with fr:=k.fr} ⟨5,⟨#[]⟩,k.l,u,none,none,0⟩ x d w'
theorem jb.upd{w:aa}{k:Kc}{c:Vc}{d:Nat}(h:jb w M m k c d e w'):aB (λk=>k=M) w w':=by
 unfold jb at h;split at h
 .exact h.2.2.2
 .exact h.2.2
theorem FF(w:aa)(M g:Nat)(m:Rm)(k:Kc)(Y:a9)(vs cs:List Vc)(x:Vc)(d:Nat)(h:aI w M m)(hK:di w g k)(hV:LR w Y k.vals vs)(h0:vs=[]->k.vals=⟨none,0,0⟩)(hC:LR w Y k.l cs)(hx:cs[vs.length+1]? =some x)(hb:cs.length<=1001)(hY:Y M)(hD:cL w m.ch d):cl 188 #[Pt M,Pt g] w (cA (PE w M m k (vs++[m.v]) x d)):=by
 have h8:=h.lt;have he:=(ke.1 hx).1;have hl:k.l.n=cs.length:=hC.1;have hF:g≠M:=λe=>by
  subst e;have h1:=h;unfold aI at h1;have h2:=hK;unfold di at h2;rw[h1] at h2;injection h2 with h4;injection h4 with h5 h6;exact absurd h6 (by decide)
 obtain⟨gl,A,O,I,hs,l0,l1,l2,l3,l4⟩:=hC.at hx;have H:gl≠M:=λe=>hs (e▸hY);have h7:Hid (∀q,aB (λk=>k=M) w q->Cl q gl (A+(vs.length+1) *5) (Jn x.k)/\Cl q gl (A+(vs.length+1) *5+1) (Jn x.n)/\Cl q gl (A+(vs.length+1) *5+2) (.string x.s)/\Cl q gl (A+(vs.length+1) *5+3) (.pointer x.p)/\Cl q gl (A+(vs.length+1) *5+4) (.pointer x.f)/\Cl q g 2 (.slice (some (dq gl A)) cs.length k.l.c)):=λq hu=>by
  have e:∀(b o:Nat),b<w.heap.size->b≠M->q.cell? (dq b o)=w.cell? (dq b o):=λb o hb hn=>xo (a:=(dq b o)) (hu.block b hb hn);refine⟨(e _ _ I H).trans l0,(e _ _ I H).trans l1,(e _ _ I H).trans l2,(e _ _ I H).trans l3,(e _ _ I H).trans l4,(e _ _ (ai hK) hF).trans ?_⟩;rw[<-hl,<-O];exact ae hK 2
 have hf:Hid (∀q,aB (λk=>k=M) w q->cL q m.ch d):=λq hu=>hD.upd h hu;clear l0 l1 l2 l3 l4;have hR:=ai hK;have c2:=kd hK 2 (.slice k.l.a k.l.n k.l.c);have c4:=kd hK 4 (.slice k.vals.a k.vals.n k.vals.c);have k4:=kd h 4 (Jn m.mode);have k5:=kd h 5 (Jn m.v.k);have k6:=kd h 6 (Jn m.v.n);have k7:=kd h 7 (.string m.v.s);have k8:=kd h 8 (.pointer m.v.p);have k9:=kd h 9 (.pointer m.v.f);obtain⟨i0,hi,hz,hA,hB⟩:=sv kh;have S:=ag (ei hi (ei hz (ei hA hB)));have HH:=ag h;have hg:=ag hK;have HV:=ag hV;have hd:=hV.1;have hh:Hid (k.l=⟨some (dq gl A),cs.length,k.l.c⟩):=by
  show k.l=_;rw[<-hl,<-O]
 clear hi hz hA hB;rw[hd] at c4;rw[hl,O] at c2;have hP:vs.length<=1001:=by omega
 clear hC hD hx O;by_cases hv:vs=[]
 .subst hv;rw[h0 rfl] at c4;clear h hK hV h0 hd hl;go_enter func188,ntmps188;go_wp2_with (at_builtin;refine nl _ rfl (.tmp 11) (.tmp 16) 65 rfl w.heap.size 96 i0 fm 5 48 underlying65 S.out.1 S.out.2.1 S.out.2.2.1 S.out.2.2.2 rfl (by decide) _ 0 [] rfl (oh _ _ _ _) (dq w.heap.size 0) 1 1 [Jn m.v.k,Jn m.v.n,.string m.v.s,.pointer m.v.p,.pointer m.v.f] rfl rfl (iO (fK _ _)) (l8 m.v) (by decide) (by unfold maxLen;omega) (by omega) (by simp) (w.heap.size+1) (by simp) ?_);intro g2 cap2 q D C hc ht;have F:aB (λ_=>False) w q:=T2 ((TU _ w).alloc _) C (λk hk _=>by cases hk);have G:aI q M m:=F.at HH.out (λh=>h);have V:di q g k:=F.at hg.out (λh=>h);have E:aB (λk=>k=M) w q:=F.mono (λ_ h=>h.elim);clear F C hc;have q10:=kd G 10 (.pointer m.fr);have qf:=G.fz;have d5:=kd V 5 (.pointer k.fr);have HLC':Hid (∀q,aB (λk=>k=M) w q->Cl q gl (A+5) (Jn x.k)/\Cl q gl (A+5+1) (Jn x.n)/\Cl q gl (A+5+2) (.string x.s)/\Cl q gl (A+5+3) (.pointer x.p)/\Cl q gl (A+5+4) (.pointer x.f)/\Cl q g 2 (.slice (some (dq gl A)) cs.length k.l.c)):=h7.out;obtain⟨e0,e1,e2,e3,e4,d2⟩:=HLC'.out q E;have r:=ag (HLC'.out (q.setCell (dq M 10) (.pointer k.fr)) E.aY);have L:aB (λk=>k=M) w (q.setCell (dq M 10) (.pointer k.fr)).drew:=E.aY.drew;have X:aI (q.setCell (dq M 10) (.pointer k.fr)).drew M {m with fr:=k.fr}:=bE (w:=q.setCell (dq M 10) (.pointer k.fr)) (TH G) (by kernel_rfl);have HP:=ag (eu (q.setCell (dq M 10) (.pointer k.fr)).drew M {m with fr:=k.fr} ⟨5,⟨#[]⟩,⟨some (dq gl A),cs.length,k.l.c⟩,⟨eb g2,1,cap2⟩,none,none,0⟩ x d X (hf.out _ L));have U:=ag L;have hr:Row w.heap.size q (.slice (eb g2) (1) cap2) ([]++[m.v]):=by
   unfold Row;rw[eP,ga];exact D
  have HR:=ag hr;have hH:¬((1:Int)=(cs.length:Int)):=by simp at he;omega
  have hG:(1:Int)<(cs.length:Int):=by simp at he;omega
  have hy:=E.size;clear D G V E L X hr;unfold Kc.c Vc.c at HP;go_wp2_with fail;go_region_held3 (λR=>Cl R g 2 (.slice (some (dq gl A)) cs.length k.l.c)/\Cl R gl (A+5) (Jn x.k)/\Cl R gl (A+5+1) (Jn x.n)/\Cl R gl (A+5+2) (.string x.s)/\Cl R gl (A+5+3) (.pointer x.p)/\Cl R gl (A+5+4) (.pointer x.f)) (first|(exact⟨r.out.2.2.2.2.2,r.out.1,r.out.2.1,r.out.2.2.1,r.out.2.2.2.1,r.out.2.2.2.2.1⟩)|(exact⟨d2,e0,e1,e2,e3,e4⟩)|go_keep) (first|(go_at_call 181;refine HP.out.mono ?_;intro e w9 h9;obtain rfl:=h9.ret;have Z:=h9.b U.out;have N:=h9.upd;obtain⟨e0,e1,e2,e3,e4,d2⟩:=HLC'.out w9 (U.out.trans N (λ_ _ h=>h));have T:=ag (ei Z N);clear h9 Z N))
  all_goals
   go_wp2;refine TT ?_;exact⟨rfl,_,(HR.out.upd h8 (TU _ _).aY.drew).upd h8 T.out.2,by rw[hh.out];exact T.out.1⟩
 .obtain⟨gv,hJ,hq,hS,hQ,hp⟩:=hV.flat (by
   cases vs with
   |nil=>exact absurd rfl hv
   |cons=>simp)
  rw[hq] at c4;have hI:0<vs.length:=by
   cases vs with
   |nil=>exact absurd rfl hv
   |cons=>simp
  have hE:=ag hp;clear h hK hV h0 hd hl hp hq;go_enter func188,ntmps188;go_wp2_with (at_builtin;refine nl _ rfl (.tmp 5) (.tmp 9) 65 rfl w.heap.size 96 i0 fm 5 48 underlying65 S.out.1 S.out.2.1 S.out.2.2.1 S.out.2.2.2 rfl (by decide) _ 0 [] rfl (oh _ _ _ _) (dq gv hJ) vs.length _ (bw vs) rfl (eX vs) hE.out (kS vs) hI (by unfold maxLen;omega) (by omega) (ew _) w.heap.size rfl ?_);intro g1 cap1 w1 h3 Q ho ht;have F:aB (λ_=>False) w w1:=T2 (TU _ w) Q (λk hk _=>by cases hk);have K:aI w1 M m:=F.at HH.out (λh=>h);have hm:di w1 g k:=F.at hg.out (λh=>h);have p5:=kd K 5 (Jn m.v.k);have p6:=kd K 6 (Jn m.v.n);have p7:=kd K 7 (.string m.v.s);have p8:=kd K 8 (.pointer m.v.p);have p9:=kd K 9 (.pointer m.v.f);have hT:=F.size;have J:=ag (ei h3 (ei K (ei hm F)));clear h3 K hm F Q ho;go_wp2_with (at_builtin;refine nl _ rfl (.tmp 11) (.tmp 16) 65 rfl w.heap.size 96 i0 fm 5 48 underlying65 S.out.1 S.out.2.1 S.out.2.2.1 S.out.2.2.2 rfl (by decide) _ vs.length (bw vs) rfl (J.out.1.alloc _) (dq w1.heap.size 0) 1 1 [Jn m.v.k,Jn m.v.n,.string m.v.s,.pointer m.v.p,.pointer m.v.f] rfl rfl (iO (fK _ _)) (l8 m.v) (by decide) (by unfold maxLen;omega) (by omega) (by simp;omega) (w1.heap.size+1) (by simp) ?_);intro g2 cap2 q D C hc hM;have ha:=bC C;have G:aI q M m:=ha.at J.out.2.1 (λh=>by have:=(ar J.out.1 h).1;omega);have V:di q g k:=ha.at J.out.2.2.1 (λh=>by have:=(ar J.out.1 h).1;omega);have E:aB (λk=>k=M) w q:=(J.out.2.2.2.mono (λ_ h=>h.elim)).trans ha (λj hj h=>by have:=(ar J.out.1 h).1;omega);clear ha C hc;have hr:Row w.heap.size q (.slice (eb g2) (vs.length+1) cap2) (vs++[m.v]):=by
   unfold Row;rw[eP,ga];exact D
  clear D;have hN:vs.length+1<cs.length:=he
  generalize hw:vs.length+1=nv at *
  have q10:=kd G 10 (.pointer m.fr);have qf:=G.fz;have d5:=kd V 5 (.pointer k.fr);obtain⟨e0,e1,e2,e3,e4,d2⟩:=h7.out q E;have r:=ag (h7.out (q.setCell (dq M 10) (.pointer k.fr)) E.aY);have L:aB (λk=>k=M) w (q.setCell (dq M 10) (.pointer k.fr)).drew:=E.aY.drew;have X:aI (q.setCell (dq M 10) (.pointer k.fr)).drew M {m with fr:=k.fr}:=bE (w:=q.setCell (dq M 10) (.pointer k.fr)) (TH G) (by kernel_rfl);have HP:=ag (eu (q.setCell (dq M 10) (.pointer k.fr)).drew M {m with fr:=k.fr} ⟨5,⟨#[]⟩,⟨some (dq gl A),cs.length,k.l.c⟩,⟨eb g2,nv,cap2⟩,none,none,0⟩ x d X (hf.out _ L));have U:=ag L;have HR:=ag hr;have hH:¬((nv:Int)=(cs.length:Int)):=by omega
  have hG:(nv:Int)<(cs.length:Int):=by omega
  have hL:(0:Int)<=(nv:Int):=by omega
  have hy:=E.size;have hO:=ag hw;clear G V E L X hr hw;unfold Kc.c Vc.c at HP;go_wp2_with fail;go_region_held3 (λR=>Cl R g 2 (.slice (some (dq gl A)) cs.length k.l.c)/\Cl R gl (A+nv *5) (Jn x.k)/\Cl R gl (A+nv *5+1) (Jn x.n)/\Cl R gl (A+nv *5+2) (.string x.s)/\Cl R gl (A+nv *5+3) (.pointer x.p)/\Cl R gl (A+nv *5+4) (.pointer x.f)) (first|(exact⟨r.out.2.2.2.2.2,r.out.1,r.out.2.1,r.out.2.2.1,r.out.2.2.2.1,r.out.2.2.2.2.1⟩)|(exact⟨d2,e0,e1,e2,e3,e4⟩)|go_keep) (first|(go_at_call 181;refine HP.out.mono ?_;intro e w9 h9;obtain rfl:=h9.ret;have Z:=h9.b U.out;have N:=h9.upd;obtain⟨e0,e1,e2,e3,e4,d2⟩:=h7.out w9 (U.out.trans N (λ_ _ h=>h));have T:=ag (ei Z N);clear h9 Z N))
  all_goals
   go_wp2;refine TT ?_;exact⟨rfl,_,(HR.out.upd h8 (TU _ _).aY.drew).upd h8 T.out.2,by rw[hh.out];exact T.out.1⟩
end Go.Proofs.YtlobegpjenabaaaGreatDoor
