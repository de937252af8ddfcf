import Derived.Test.YtlobegpjenabaaaGreatDoorT30
import Derived.OwnWalk
namespace Go.Proofs.YtlobegpjenabaaaGreatDoor
open Go.RowKit Tryz
set_option linter.unusedSimpArgs false
set_option linter.unusedVariables false
set_option linter.defProp false
set_option maxRecDepth 100000
set_option maxHeartbeats 4000000
def Th:=@List.drop_one
variable {n m k cap g C B e:Nat} {css:List bc} {ds f f':List D} {cs:bc} {w1 w3 w4 w' w'':aa} {v':al} {x:Int} {t s:ao} {r p:a8} {Y Y':a9} {fo:Sl} {z:BS} {vs:List V} {fx:List X} {mo:Nat->Option Nat} {ks:List E} {vs0:a7} {P:Program} {o:Oper} {a:Act} {K:Act->aa->Prop} {Q:Exit->Act->aa->Prop} {ops:Array Oper} {rest:List Oper}
def nM(n:Nat):Prop:=∀(d:D) (cs:bc) (w:aa),RV w n cs d->cl 45 #[.agg cs] w λe w'=>e=.returned (.bool (aG n d))/\Below w.heap.size w w'
theorem Qo{w:aa}{v:al}(i:lH w v css)(h:dT w n css ds):∃a cap,v=.slice a ds.length cap/\ds.length<=cap/\cap<=maxLen/\
  ∀k (l:k<ds.length),∃g b,a=some (dq g b)/\g<w.heap.size/\∃x m s p,RV w n (az x m s p) ds[k]/\Cl w g (b+k *5) (Jn x)/\Cl w g (b+k *5+1) (Jn m)/\Cl w g (b+k *5+2) (.string s)/\Cl w g (b+k *5+3) (.pointer p)/\Cl w g (b+k *5+4) (.pointer none):=by
 have A:=h.length;obtain⟨a,cap,q,h1,h2,h3⟩:=i;rw[A] at q h1 h3;refine⟨a,cap,q,h1,h2,λk l=> ?_⟩;obtain⟨g,b,u,y,d⟩:=h3 (by omega);obtain⟨c,_,D,j,hf⟩:=qp h k l;obtain⟨x,m,s,p,rfl⟩:=T7 _ _ _ j;exact⟨g,b,u,y,x,m,s,p,j,d _ _ (by have:=hf 0 (by omega);simpa[az] using this),by rw[RU];exact d _ _ (by have:=hf 1 (by omega);simpa[az] using this),by rw[RU];exact d _ _ (by have:=hf 2 (by omega);simpa[az] using this),by rw[RU];exact d _ _ (by have:=hf 3 (by omega);simpa[az] using this),by rw[RU];exact d _ _ (by have:=hf 4 (by omega);simpa[az] using this)⟩
theorem yh(f:D->Bool)(ds:List D)(k:Nat)(h:k<ds.length):(ds.take (k+1)).all f=((ds.take k).all f&&f ds[k]):=by
 rw[mn h,SP];simp
theorem qu(f:D->Bool)(ds:List D)(k:Nat)(h:k<ds.length)(hf:f ds[k]=false):ds.all f=false:=by
 rw[List.all_eq_false];exact⟨ds[k],Sj h,by simp[hf]⟩
theorem Og(n:Nat)(O:nM n)(css:List bc)(ds:List D)(v:al)(w:aa)(l:lH w v css)(A:dT w n css ds)(U:ds.length<=1000)(r:Bool)(R:Hid (r=ds.all (aG n))):
  cl 68 #[v] w λe w'=>e=.returned (.bool r)/\Below w.heap.size w w':=by
 obtain⟨a,cap,rfl,h0,N,u⟩:=Qo l A;have H:=ag u;have I:=ag O;clear u l A O;unfold maxLen at N;go_enter func68,ntmps68;go_wp2
 go_loopw [3] (λi wr=>∃k:Nat,k<=ds.length/\i=Jn k/\(ds.take k).all (aG n)=true/\Below w.heap.size w wr) (λi _=>ds.length-(intOf i).toNat)
 case atStart=>exact⟨0,kc _,rfl,rfl,fL _ _⟩
 case round=>
  obtain⟨k,T,rfl,G,c⟩:=hrel;have q:=ag G;clear G;by_cases hlt:k<ds.length
  .obtain⟨g,b,rfl,E,x,m,s,p,F,c0,c1,c2,c3,S⟩:=H.out k hlt;have V:wr.cell? (dq g (b+k *5))=some (Jn x):=by rw[c.cell (p:=(dq g (b+k *5))) E];exact c0
   have W:wr.cell? (dq g (b+k *5+1))=some (Jn m):=by rw[c.cell (p:=(dq g (b+k *5+1))) E];exact c1
   have X:wr.cell? (dq g (b+k *5+2))=some (.string s):=by rw[c.cell (p:=(dq g (b+k *5+2))) E];exact c2
   have Z:wr.cell? (dq g (b+k *5+3))=some (.pointer p):=by rw[c.cell (p:=(dq g (b+k *5+3))) E];exact c3
   have d4:wr.cell? (dq g (b+k *5+4))=some (.pointer none):=by rw[c.cell (p:=(dq g (b+k *5+4))) E];exact S
   have L:=ag F;have d:=ag c;clear F c c0 c1 c2 c3 S;go_wp2_with fail;refine(I.out ds[k] (az x m s p) _ (by exact RV.ak (TX d.out) _ _ _ L.out)).mono ?_;rintro e w2 ⟨rfl,y⟩;have j:Below w.heap.size w w2:=d.out.trans (y.mono d.out.size);have h:=ag j;clear y j V W X Z d4;cases hvd:aG n ds[k] with
   |false=>
    have J:=ag (qu (aG n) ds k hlt hvd);clear hvd;go_wp2;go_ret;exact⟨aS (by rw[R.out,J.out]),h.out⟩
   |true=>
    have M:=ag hvd;clear hvd;go_wp2;go_roundw
    case rel=>exact⟨k+1,by omega,by go_num,by rw[yh _ ds k hlt,q.out,M.out];rfl,h.out⟩
    case measure=>simp[intOf];omega
  .have T:k=ds.length:=by omega
   subst T;have d:=ag c;clear c;go_wp2;go_ret;exact⟨aS (by rw[R.out];have:=q.out;rw[xp] at this;exact this.symm),d.out⟩
theorem iI(n:Nat)(h:nM n)(css:List bc)(ds:List D)(v:al)(w:aa)(c:lH w v css)(d:dT w n css ds)(b:ds.length<=1000):
  cl 68 #[v] w λe w'=>e=.returned (.bool (ds.all (aG n)))/\Below w.heap.size w w':=Og n h css ds v w c d b _ rfl
def tL(f:D->Bool)(b:D):Bool:=aX b&&decide ((aE b).length=2)&&f ((aE b).getD 1 (ju []))
theorem su(f:D->Bool):∀(ds:List D) (seen:List au),jg f seen ds=ds.all (tL f)
 |[],seen=>rfl
 |b::r,seen=>by rw[jg,su f r seen,R7];rfl
def lJ(b:D):D:=(aE b).getD 0 (num 0)
def ue(n:Nat)(d:D):Bool:=aX d&&(aE d).all (tL (aG n))&&bn [] ((aE d).map lJ)
theorem RV.QD{w:aa}{d:D}(h:RV w n cs d):∀k,RV w (n+k) cs d
 |0=>h
 |k+1=>RV.up _ _ _ (RV.QD h k)
theorem RV.pos{w:aa}{d:D}(h:RV w n cs d):0<n:=by
 cases n with
 |zero=>exact h.elim
 |succ n=>omega
theorem RV.len{w:aa}{d:D}(h:RV w n cs d):(aE d).length<=1000:=by
 obtain⟨m,rfl⟩:∃m,n=m+1:=⟨n-1,by have:=h.pos;omega⟩;cases d with
 |agg l=>exact h.1
 |slice l a=>cases h
 |_=>simp[aE]
def Dh(w1:aa)(n m:Nat)(ds:List D)(v:al)(wr:aa)(k:Nat):Prop:=
 (ds.take k).all (tL (aG n))=true/\(∃a,dl w1.heap.size wr v a/\dT wr (m-1) a ((ds.take k).map lJ))/\Below w1.heap.size w1 wr
theorem Bl{v:al}{q:Int}(l:k<ds.length)(b:(ds.take k).all (tL (aG n))=true)(d:tL (aG n) ds[k]=true)(u:dl w1.heap.size w3 v css)(i:dT w3 (m-1) css ((ds.take k).map lJ))(hb:Below w1.heap.size w1 w3)(y:RV w3 (m-1) (az x q t r) (lJ ds[k]))(w:aB (λk=>v.ownBlock=some k) w3 w4)(ho:w4.ownsRow w1.heap.size 96 5 v' (css.length+1) (flat css++[Jn x,Jn q,.string t,.pointer r,.pointer none])):Dh w1 n m ds v' w4 (k+1):=by
 have c:aC 162 w3 w4:=T1 w (cr u (by decide));refine⟨by rw[yh _ ds k l,b,d];rfl,⟨css++[az x q t r],?_,?_⟩,hb.trans (w.below hb.size (λj h=>(ar u h).1))⟩
 .unfold dl;rw[lp,ga];exact ho
 .rw[mn l,s8];exact dT.append (dT.ak c _ _ _ i) ⟨rfl,RV.ak c _ _ _ y,trivial⟩
theorem yo(n:Nat)(HE:nM n)(d:D)(cs:bc)(w:aa)(hv:RV w n cs d)(r:Bool)(HR:Hid (r=ue n d)):
  cl 70 #[.agg cs] w λe w'=>e=.returned (.bool r)/\Below w.heap.size w w':=by
 obtain⟨m,rfl⟩:∃m,n=m+1:=⟨n-1,by have:=hv.pos;omega⟩;obtain⟨k0,m0,s0,p0,rfl⟩:=T7 _ _ _ hv;have hK:=hv.len;have HV:=ag hv;have hs:=ag HE;clear hv HE;obtain⟨i0,h5,hn,ho,hp⟩:=sv kh;have HI:=ag (ei h5 (ei hn (ei ho hp)));clear h5 hn ho hp;unfold az;go_enter func70,ntmps70;go_wp2_with fail;refine(lq m d (az k0 m0 s0 p0) _ (by exact RV.ak (TX (aR _ _)) _ _ _ HV.out)).mono ?_;rintro e w1 ⟨v,css0,rfl,q,u,hj⟩;have hl:Below w.heap.size w w1:=(aR _ _).trans (hj.mono (by simp));unfold ue at HR
 generalize aE d=ds at *
 obtain⟨a,cap,rfl,hS,hD,hh⟩:=sD q u;have H:=ag hl;have hq:=ag hh;clear hl hh hj q u;cases hil:aX d with
 |false=>
  go_wp2;go_ret;exact⟨aS (by rw[HR.out,hil];rfl),H.out⟩
 |true=>
  unfold maxLen at hD;go_wp2_with fail
  go_loopw [5,6] (λv i wr=>∃k:Nat,k<=ds.length/\i=Jn k/\Dh w1 (m+1) m ds v wr k) (λ_ i _=>ds.length-(intOf i).toNat)
  case atStart=>exact⟨0,kc _,rfl,rfl,⟨[],dl.nil _ _,trivial⟩,fL _ _⟩
  case round=>
   obtain⟨k,hk,rfl,h2,⟨css,q,u⟩,c⟩:=hrel;have h0:=ag h2;have h1:=ag q;have Z:=ag u;clear h2 q u;by_cases hlt:k<ds.length
   .obtain⟨g,rfl,hg,x,mm,s,p,hb,c0,c1,c2,c3,c4⟩:=hq.out k hlt;have d0:wr.cell? (dq g (k *5))=some (Jn x):=by rw[c.cell (p:=(dq g (k *5))) hg];exact c0
    have d1:wr.cell? (dq g (k *5+1))=some (Jn mm):=by rw[c.cell (p:=(dq g (k *5+1))) hg];exact c1
    have d2:wr.cell? (dq g (k *5+2))=some (.string s):=by rw[c.cell (p:=(dq g (k *5+2))) hg];exact c2
    have d3:wr.cell? (dq g (k *5+3))=some (.pointer p):=by rw[c.cell (p:=(dq g (k *5+3))) hg];exact c3
    have d4:wr.cell? (dq g (k *5+4))=some (.pointer none):=by rw[c.cell (p:=(dq g (k *5+4))) hg];exact c4
    obtain⟨m',rfl⟩:∃j,m=j+1:=⟨m-1,by have:=hb.pos;omega⟩;have he:=ag hb;have y:=ag c;clear hb c c0 c1 c2 c3 c4;go_wp2_with fail;refine(lq m' ds[k] (az x mm s p) _ (by exact RV.ak (TX y.out) _ _ _ he.out)).mono ?_;rintro e w2 ⟨v2,css2,rfl,R,U,A⟩;have h4:Below w1.heap.size w1 w2:=y.out.trans (A.mono y.out.size);have T:dl w1.heap.size w2 u5 css:=aq h1.out (TW (λ_=>False) A) (λ_ _ h=>h);have h9:dT w2 (m'+1-1) css ((ds.take k).map lJ):=dT.ak (TX A) _ _ _ Z.out;have hG:=he.out.len;have X:=ag (show tL (aG (m'+1+1)) ds[k]=(aX ds[k]&&decide ((aE ds[k]).length=2)&&aG (m'+1+1) ((aE ds[k]).getD 1 (ju []))) from rfl);have hu:=ag (show lJ ds[k]=(aE ds[k]).getD 0 (num 0) from rfl)
    generalize aE ds[k]=es at *
    obtain⟨a2,cap2,rfl,hI,hJ,h3⟩:=sD R U;have E:=ag h4;have hA:=ag T;have hC:=ag h9;have G:=ag h3;clear A h4 d0 d1 d2 d3 d4 R U T h9 h3;cases his:aX ds[k] with
    |false=>
     have J:=ag (qu (tL (aG (m'+1+1))) ds k hlt (by rw[X.out,his];rfl));go_wp2;go_ret;exact⟨aS (by rw[HR.out,J.out,RB];rfl),H.out.trans (E.out.mono H.out.size)⟩
    |true=>
     by_cases F:es.length=2
     .have bl2:((es.length:Int) !=2)=false:=by simp;omega
      obtain⟨V,rfl,M,x0,q0,t0,r0,h7,a0,a1,a2,a3,a4⟩:=G.out 0 (by omega);obtain⟨hR,hE,_,x1,q1,t1,r1,h8,b0,b1,b2,b3,b4⟩:=G.out 1 (by omega);cases hE;simp only[v7,PS,C4] at a0 a1 a2 a3 a4 b0 b1 b2 b3 b4;have hd:Hid (es.getD 1 (ju [])=es[1]):=by show _=_;simp[pk,F]
      have hr:Hid (es.getD 0 (num 0)=es[0]):=by show _=_;simp[pk,F]
      generalize es[1]=eB at *
      generalize es[0]=eA at *
      have i2:(1:Int)<(es.length:Int):=by omega
      have i3:(0:Int)<(es.length:Int):=by omega
      have ht:=ag F;have hy:=ag h7;have hz:=ag h8;clear F h7 h8 G;go_wp2_with fail;refine(hs.out eB (az x1 q1 t1 r1) _ (by exact RV.QD hz.out 2)).mono ?_;rintro e w3 ⟨rfl,b⟩;have l:Below w1.heap.size w1 w3:=E.out.trans (b.mono E.out.size);cases hex:aG (m'+1+1) eB with
      |false=>
       have J:=ag (qu (tL (aG (m'+1+1))) ds k hlt (by rw[X.out,hd.out,hex,RB]));have I:=ag l;clear l b;go_wp2;go_ret;exact⟨aS (by rw[HR.out,J.out,RB];rfl),H.out.trans (I.out.mono H.out.size)⟩
      |true=>
       have hx:Hid (tL (aG (m'+1+1)) ds[k]=true):=by show _=_;rw[X.out,hd.out,hex,ht.out,his];rfl
       have S:dl w1.heap.size w3 u5 css:=aq hA.out (TW (λ_=>False) b) (λ_ _ h=>h);have hM:w3.cell? (dq V 0)=some (Jn x0):=by rw[b.cell (p:=(dq V 0)) M];exact a0
       have hN:w3.cell? (dq V 1)=some (Jn q0):=by rw[b.cell (p:=(dq V 1)) M];exact a1
       have hO:w3.cell? (dq V 2)=some (.string t0):=by rw[b.cell (p:=(dq V 2)) M];exact a2
       have hP:w3.cell? (dq V 3)=some (.pointer r0):=by rw[b.cell (p:=(dq V 3)) M];exact a3
       have hQ:w3.cell? (dq V 4)=some (.pointer none):=by rw[b.cell (p:=(dq V 4)) M];exact a4
       have hm:=Z.out.length;have hH:css.length<=1000:=by rw[hm];simp;omega
       have L:=ag S;have I:=ag l;have W:=ag b;have hT:=l.size;clear l b S hm a0 a1 a2 a3 a4 b0 b1 b2 b3 b4;go_wp2_with (at_builtin;refine nl _ rfl (.tmp 44) (.tmp 48) 65 rfl w1.heap.size 96 i0 fm 5 48 underlying65 HI.out.1 HI.out.2.1 HI.out.2.2.1 HI.out.2.2.2 rfl (by decide) _ css.length (flat css) rfl (L.out.alloc _) (dq w3.heap.size 0) 1 1 [Jn x0,Jn q0,.string t0,.pointer r0,.pointer none] rfl rfl (iO (fK _ _)) (MF _ _ _ _) (by decide) (by unfold maxLen;omega) (by omega) (by simp;omega) (w3.heap.size+1) (by simp) ?_);intro g' cap' w4 O N hi hL;have H4:=bC N;have hw:=ag O;have hB:=ag H4;clear O N hi H4;go_wp2;go_roundw
       case rel=>exact⟨k+1,by omega,by go_num,Bl hlt h0.out hx.out L.out (dT.ak (TX W.out) _ _ _ hC.out) I.out (by rw[hu.out,hr.out];exact RV.ak (TX W.out) _ _ _ hy.out) hB.out hw.out⟩
       case measure=>simp[intOf];omega
     .have J:=ag (qu (tL (aG (m'+1+1))) ds k hlt (by rw[X.out,zd F];simp));have bl2:((es.length:Int) !=2)=true:=by rw[SC];omega
      clear F;go_wp2;go_ret;exact⟨aS (by rw[HR.out,J.out,RB];rfl),H.out.trans (E.out.mono H.out.size)⟩
   .have hk:k=ds.length:=by omega
    subst hk;have y:=ag c;have ha:=Z.out.length;have hF:((ds.take ds.length).map lJ).length<=1000:=by simp;omega
    clear c ha;go_wp2_with fail;refine(rW (m-1) css ((ds.take ds.length).map lJ) _ _ w1.heap.size h1.out Z.out hF).mono ?_;rintro e w2 ⟨cs2,_,rfl,h6,A,_⟩;have hf:=ag h6;have hc:=ag A;clear h6 A;go_wp2_with fail;refine(i9 (m-1) (.agg ((ds.take ds.length).map lJ)) cs2 _ hf.out).mono ?_;rintro e w3 ⟨rfl,b⟩;have W:=ag b;clear b;go_wp2;go_ret;refine⟨aS ?_,((H.out.trans (y.out.mono H.out.size)).trans (hc.out.mono (ku H.out.size y.out.size))).trans (W.out.mono (ku (ku H.out.size y.out.size) hc.out.size))⟩;have:=h0.out;rw[xp] at this;rw[HR.out,hil,this];rfl
theorem vO(n:Nat)(b:nM n)(d:D)(cs:bc)(w:aa)(c:RV w n cs d):
  cl 70 #[.agg cs] w λe w'=>e=.returned (.bool (ue n d))/\Below w.heap.size w w':=yo n b d cs w c _ rfl
theorem dT.drop{w:aa}:∀{css:List bc} {ds:List D} (k:Nat),dT w n css ds->dT w n (css.drop k) (ds.drop k)
 |[],[],k,h=>by simp[dT]
 |c::cs,d::ds,0,h=>h
 |c::cs,d::ds,k+1,h=>dT.drop k h.2.2
 |[],_::_,_,h=>h.elim
 |_::_,[],_,h=>h.elim
theorem ut{w:aa}:∀{css:List bc} {ds:List D} (k:Nat),dT w n css ds->flat (css.drop k)=(flat css).drop (k *5)
 |[],[],k,h=>by simp[flat]
 |c::cs,d::ds,0,h=>by simp
 |c::cs,d::ds,k+1,h=>by
  have b:c.toList.length=5:=by simp[h.1]
  rw[yd,ut k h.2.2];simp only[flat,Ps];rw[show(k+1) *5=c.toList.length+k *5 from by omega,List.drop_append];simp
 |[],_::_,_,h=>h.elim
 |_::_,[],_,h=>h.elim
theorem jX{w:aa}{len:Nat}(k:Nat)(c:lH w (.slice (eb g) len cap) css)(b:dT w n css ds)(D:k<=ds.length):
  lH w (.slice (some (dq g (k *5))) (ds.length-k) (cap-k)) (css.drop k):=by
 have q:=b.length;obtain⟨a',cap',v,h1,h2,h3⟩:=c;cases v;refine⟨_,_,by rw[S1,q],by rw[S1];omega,by omega,λhp=> ?_⟩;rw[S1] at hp;obtain⟨A,y,h,l,i⟩:=h3 (by omega);cases h;refine⟨g,k *5,rfl,l,λj u d=> ?_⟩;rw[ut k b,Sn] at d;have:=i _ u d;rw[C4] at this;exact this
theorem dZ(n:Nat)(l:List D):aG (n+1) (.agg l)=
  if aO l=[113,117,111,116,101] then decide (l.length=2)
  else if aO l=[105,102] then(decide (l.length=3)||decide (l.length=4))&&l.tail.all (aG n)
  else if aO l=[115,101,116,33] then decide (l.length=3)&&cI (l.getD 1 (ju []))&&(l.drop 2).all (aG n)
  else if aO l=[108,97,109,98,100,97] then decide (3<=l.length)&&aX (l.getD 1 (num 0))&&bn [] (aE (l.getD 1 (num 0)))&&(l.drop 2).all (aG n)
  else if aO l=[98,101,103,105,110] then decide (2<=l.length)&&l.tail.all (aG n)
  else if aO l=[100,101,102,105,110,101] then
   (if 3<=l.length/\0<(aE (l.getD 1 (num 0))).length
    then cI ((aE (l.getD 1 (num 0))).getD 0 (num 0))&&bn [] (aE (l.getD 1 (num 0))).tail&&(l.drop 2).all (aG n)
    else decide (l.length=3)&&cI (l.getD 1 (ju []))&&(l.drop 2).all (aG n))
  else if aO l=[108,101,116] then
   decide (3<=l.length)&&aX (l.getD 1 (num 0))&&jg (aG n) [] (aE (l.getD 1 (num 0)))&&bn [] ((aE (l.getD 1 (num 0))).map λb=>(aE b).getD 0 (num 0))&&(l.drop 2).all (aG n)
  else !l.isEmpty&&l.all (aG n):=rfl
theorem zf:∀(ds:List D),aO ds=[113,117,111,116,101]\/aO ds=[105,102]\/aO ds=[115,101,116,33]\/aO ds=[108,97,109,98,100,97]\/aO ds=[98,101,103,105,110]\/aO ds=[100,101,102,105,110,101]\/aO ds=[108,101,116]\/aO ds=[]
 |[]=>by simp[aO]
 |.lit (.string s)::_=>by
  simp only[aO];by_cases h:l7 s=true
  .rw[fN h];simp[l7,OS] at h;rcases h with h|h|h|h|h|h|h<;>simp[h]
  .rw[fb h];simp
 |.lit (.int _ _)::_=>by simp[aO]
 |.lit (.bool _)::_=>by simp[aO]
 |.lit (.float _ _)::_=>by simp[aO]
 |.lit .nil::_=>by simp[aO]
 |.nil::_=>by simp[aO]
 |.ptr _::_=>by simp[aO]
 |.slice _ _::_=>by simp[aO]
 |.agg _::_=>by simp[aO]
 |.iface _ _::_=>by simp[aO]
 |.map _::_=>by simp[aO]
 |.held _::_=>by simp[aO]
theorem Bj(n m:Nat):((n:Int)==(m:Int))=decide (n=m):=by
 rw[C2];simp;omega
theorem In(n:Nat)(l:List D)(h:aO l=[113,117,111,116,101]):aG (n+1) (.agg l)=decide (l.length=2):=by rw[dZ,fN h]
theorem NS(n:Nat)(l:List D)(h:aO l=[105,102]):aG (n+1) (.agg l)=((decide (l.length=3)||decide (l.length=4))&&(l.drop 1).all (aG n)):=by
 rw[dZ,fb (by rw[h];decide),fN h,Th]
theorem BP(n:Nat)(l:List D)(h:aO l=[115,101,116,33]):aG (n+1) (.agg l)=(decide (l.length=3)&&cI (l.getD 1 (ju []))&&(l.drop 2).all (aG n)):=by
 rw[dZ,fb (by rw[h];decide),fb (by rw[h];decide),fN h]
theorem n8(n:Nat)(l:List D)(h:aO l=[108,97,109,98,100,97]):aG (n+1) (.agg l)=(decide (3<=l.length)&&aX (l.getD 1 (num 0))&&bn [] (aE (l.getD 1 (num 0)))&&(l.drop 2).all (aG n)):=by
 rw[dZ,fb (by rw[h];decide),fb (by rw[h];decide),fb (by rw[h];decide),fN h]
theorem yR(n:Nat)(l:List D)(h:aO l=[98,101,103,105,110]):aG (n+1) (.agg l)=(decide (2<=l.length)&&(l.drop 1).all (aG n)):=by
 rw[dZ,fb (by rw[h];decide),fb (by rw[h];decide),fb (by rw[h];decide),fb (by rw[h];decide),fN h,Th]
theorem n7(n:Nat)(l:List D)(h:aO l=[100,101,102,105,110,101]):aG (n+1) (.agg l)=(if 3<=l.length/\0<(aE (l.getD 1 (num 0))).length
    then cI ((aE (l.getD 1 (num 0))).getD 0 (num 0))&&bn [] (aE (l.getD 1 (num 0))).tail&&(l.drop 2).all (aG n)
    else decide (l.length=3)&&cI (l.getD 1 (ju []))&&(l.drop 2).all (aG n)):=by
 rw[dZ,fb (by rw[h];decide),fb (by rw[h];decide),fb (by rw[h];decide),fb (by rw[h];decide),fb (by rw[h];decide),fN h]
theorem BO(n:Nat)(l:List D)(h:aO l=[108,101,116]):aG (n+1) (.agg l)=(decide (3<=l.length)&&ue n (l.getD 1 (num 0))&&(l.drop 2).all (aG n)):=by
 rw[dZ,fb (by rw[h];decide),fb (by rw[h];decide),fb (by rw[h];decide),fb (by rw[h];decide),fb (by rw[h];decide),fb (by rw[h];decide),fN h,su];unfold ue lJ;simp only[Sx]
theorem OG(n:Nat)(l:List D)(h:aO l=[])(hp:0<l.length):aG (n+1) (.agg l)=l.all (aG n):=by
 rw[dZ,fb (by rw[h];decide),fb (by rw[h];decide),fb (by rw[h];decide),fb (by rw[h];decide),fb (by rw[h];decide),fb (by rw[h];decide),fb (by rw[h];decide)];cases l with
 |nil=>simp at hp
 |cons a b=>rfl
theorem Qh{w:aa}{m:Int}{d:D}(h:RV w n (az x m s p) d):
  ((x==5)=false/\(aE d).length=0)\/((x==5)=true/\∃y c bb c1 c2 j,n=j+1/\d=.agg (y::c)/\p=eb bb/\w.heap[bb]? =some (Obj.cells (c1++c2) 162 (0,0))/\c1.size=5/\c2.size=5/\RV w j c1 y/\RV w (j+1) c2 (.agg c)):=by
 cases n with
 |zero=>exact h.elim
 |succ n=>
  match d,h with
  |.agg [],h=>have h:az x m s p=az 4 0 aZ none:=h.2;cases h;exact RP ⟨rfl,rfl⟩
  |.agg (y::c),h=>
   obtain⟨l,b,c1,c2,h,hb,h1,h2,u,i⟩:=h;cases h;exact RA ⟨rfl,y,c,b,c1,c2,n,rfl,rfl,rfl,hb,h1,h2,u,by simp at l;omega,i⟩
  |.lit (.int q z),h=>cases q<;>first|(cases h;done)|(have h:some _=some (az x m s p):=h;cases h;exact RP ⟨rfl,rfl⟩)
  |.lit (.bool b),h=>have h:some _=some (az x m s p):=h;cases h;exact RP ⟨rfl,rfl⟩
  |.lit (.string t),h=>have h:some _=some (az x m s p):=h;cases h;exact RP ⟨rfl,rfl⟩
  |.nil,h=>have h:some _=some (az x m s p):=h;cases h;exact RP ⟨rfl,rfl⟩
theorem EY(n:Nat)(HE:nM n)(ds:List D)(hd:0<ds.length)(cs:bc)(w:aa)(hv:RV w (n+1) cs (.agg ds))(r:Bool)(H:Hid (r=aG (n+1) (.agg ds))):
  cl 45 #[.agg cs] w λe w'=>e=.returned (.bool r)/\Below w.heap.size w w':=by
 obtain⟨d0,dr,rfl⟩:∃d0 dr,ds=d0::dr:=by cases ds with|nil=>simp at hd|cons a b=>exact⟨a,b,rfl⟩
 have HV:=ag hv;obtain⟨hr,b,c1,c2,rfl,_⟩:=hv;have J:=ag HE;clear HE;unfold az;go_enter func45,ntmps45;go_wp2_with fail;refine(lq n (.agg (d0::dr)) (az 5 0 aZ (eb b)) _ (by exact RV.ak (TX (aR _ _)) _ _ _ HV.out)).mono ?_;rintro e w1 ⟨v,css,rfl,W,N,h3⟩;have ha:Below w.heap.size w w1:=(aR _ _).trans (h3.mono (by simp));have N:dT w1 n css (d0::dr):=N
 generalize (d0::dr)=ds at *
 have E:=ag ha;have A:=ag W;have l:=ag N;obtain⟨a,cap,rfl,hu,hn,h2⟩:=sD W N;obtain⟨g,rfl,hg,x0,q0,t0,r0,hb,a0,a1,a2,a3,a4⟩:=h2 0 hd;have ht:w1.cell? (dq w.heap.size 0)=some (Jn 5):=by
  rw[h3.cell (p:=(dq w.heap.size 0)) (by simp)];exact Cb _ _ _ 0 rfl
 have h0:=ag h2;clear W N h2 h3 ha hb a0 a1 a2 a3 a4;unfold maxLen at hn;go_wp2_with fail;refine(IA n css ds _ _ A.out.rd l.out).mono ?_;rintro e w' ⟨rfl,rfl⟩;rcases zf ds with h|h|h|h|h|h|h|h
 all_goals
  have L:=ag h;rw[h];clear h
 ·
  go_wp2;go_ret;exact⟨aS (by rw[H.out,In n ds L.out];exact Bj _ 2),E.out⟩
 ·
  by_cases q:ds.length=3\/ds.length=4
  .have hi:Hid ((decide (ds.length=3)||decide (ds.length=4))=true):=by show _=_;simpa using q
   have hs:3<=ds.length:=by omega
   have i1:(1:Int)<=(ds.length:Int):=by omega
   have i2:(ds.length:Int)<=(cap:Int):=by omega
   have i3:(1:Int)<(cap:Int):=by omega
   have hm:((ds.length:Int)==3)=true\/(((ds.length:Int)==3)=false/\((ds.length:Int)==4)=true):=by
    rcases q with h|h
    .left;rw[xb];omega
    .right;exact⟨by rw[j2];omega,by rw[xb];omega⟩
   clear q;rcases hm with b3|⟨b3,b4⟩
   all_goals
    go_wp2_with fail;refine(iI n J.out (css.drop 1) (ds.drop 1) _ _ (by exact jX 1 A.out.rd l.out (by omega)) (dT.drop 1 l.out) (by simp;omega)).mono ?_;rintro e V ⟨rfl,c⟩;have d:=ag c;clear c;go_wp2;go_ret;exact⟨aS (by rw[H.out,NS n ds L.out,hi.out,Th];rfl),E.out.trans (d.out.mono E.out.size)⟩
  .have b3:((ds.length:Int)==3)=false:=by rw[j2];omega
   have b4:((ds.length:Int)==4)=false:=by rw[j2];omega
   have U:Hid ((decide (ds.length=3)||decide (ds.length=4))=false):=by show _=_;simp;omega
   clear q;go_wp2;go_ret;exact⟨aS (by rw[H.out,NS n ds L.out,U.out];rfl),E.out⟩
 ·
  by_cases q:ds.length=3
  .obtain⟨g',S,_,x1,q1,t1,r1,i,a0,a1,a2,a3,a4⟩:=h0.out 1 (by omega);cases S;have G:Hid (ds.getD 1 (ju [])=ds[1]):=by show _=_;simp[pk,q]
   generalize ds[1]=T at *
   simp only[PS] at a0 a1 a2 a3 a4;have b3:((ds.length:Int)==3)=true:=by rw[xb];omega
   have i1:(1:Int)<(ds.length:Int):=by omega
   have i2:(2:Int)<=(ds.length:Int):=by omega
   have i3:(2:Int)<(cap:Int):=by omega
   have Z:=ag q;have R:=ag i;clear q i;go_wp2_with fail;refine(iS n T (az x1 q1 t1 r1) _ R.out).mono ?_;rintro e V ⟨rfl,c⟩;have d:=ag (show Below w.heap.size w V from E.out.trans (c.mono E.out.size));have HB2':=ag c;clear c;cases hvd:cI T with
   |false=>
    go_wp2;go_ret;exact⟨aS (by rw[H.out,BP n ds L.out,G.out,hvd,RB];rfl),d.out⟩
   |true=>
    go_wp2_with fail;refine(iI n J.out (css.drop 2) (ds.drop 2) _ _ (by exact jX 2 (A.out.rd.below HB2'.out) (l.out.below HB2'.out) (by omega)) (dT.drop 2 (l.out.below HB2'.out)) (by simp;omega)).mono ?_;rintro e w3 ⟨rfl,u⟩;have F:=ag u;clear u;go_wp2;go_ret;exact⟨aS (by rw[H.out,BP n ds L.out,G.out,hvd,Z.out];rfl),d.out.trans (F.out.mono d.out.size)⟩
  .have b3:((ds.length:Int)==3)=false:=by rw[j2];omega
   have U:Hid (decide (ds.length=3)=false):=zd q;clear q;go_wp2;go_ret;exact⟨aS (by rw[H.out,BP n ds L.out,U.out];rfl),E.out⟩
 ·
  by_cases q:3<=ds.length
  .obtain⟨g',S,_,x1,q1,t1,r1,i,a0,a1,a2,a3,a4⟩:=h0.out 1 (by omega);cases S;have G:Hid (ds.getD 1 (num 0)=ds[1]):=by show _=_;rw[pk,fA (by omega)];rfl
   generalize ds[1]=T at *
   simp only[PS] at a0 a1 a2 a3 a4;have i0:(3:Int)<=(ds.length:Int):=by omega
   have i1:(1:Int)<(ds.length:Int):=by omega
   have i2:(2:Int)<=(ds.length:Int):=by omega
   have i3:(2:Int)<(cap:Int):=by omega
   have Z:=ag q;have R:=ag i;obtain⟨n',rfl⟩:∃j,n=j+1:=⟨n-1,by have:=i.pos;omega⟩;clear q i;go_wp2_with fail;refine(i9 n' T (az x1 q1 t1 r1) _ R.out).mono ?_;rintro e V ⟨rfl,c⟩;have d:=ag (show Below w.heap.size w V from E.out.trans (c.mono E.out.size));have HB2':=ag c;clear c;cases hvd:(aX T&&bn [] (aE T)) with
   |false=>
    go_wp2;go_ret;exact⟨aS (by rw[H.out,n8 _ ds L.out,G.out,Sx (decide (3<=ds.length)),hvd,RB];rfl),d.out⟩
   |true=>
    go_wp2_with fail;refine(iI _ J.out (css.drop 2) (ds.drop 2) _ _ (by exact jX 2 (A.out.rd.below HB2'.out) (l.out.below HB2'.out) (by omega)) (dT.drop 2 (l.out.below HB2'.out)) (by simp;omega)).mono ?_;rintro e w3 ⟨rfl,u⟩;have F:=ag u;clear u;go_wp2;go_ret;exact⟨aS (by rw[H.out,n8 _ ds L.out,G.out,Sx (decide (3<=ds.length)),hvd,Sh Z.out];rfl),d.out.trans (F.out.mono d.out.size)⟩
  .have i2:¬(3:Int)<=(ds.length:Int):=by omega
   have U:Hid (decide (3<=ds.length)=false):=zd q;clear q;go_wp2;go_ret;exact⟨aS (by rw[H.out,n8 n ds L.out,U.out];rfl),E.out⟩
 ·
  by_cases q:2<=ds.length
  .have i1:(1:Int)<=(ds.length:Int):=by omega
   have i2:(2:Int)<=(ds.length:Int):=by omega
   have i3:(1:Int)<(cap:Int):=by omega
   have Z:=ag q;clear q;go_wp2_with fail;refine(iI n J.out (css.drop 1) (ds.drop 1) _ _ (by exact jX 1 A.out.rd l.out (by omega)) (dT.drop 1 l.out) (by simp;omega)).mono ?_;rintro e V ⟨rfl,c⟩;have d:=ag c;clear c;go_wp2;go_ret;exact⟨aS (by rw[H.out,yR n ds L.out,Sh Z.out,Th];rfl),E.out.trans (d.out.mono E.out.size)⟩
  .have i2:¬(2:Int)<=(ds.length:Int):=by omega
   have U:Hid (decide (2<=ds.length)=false):=zd q;clear q;go_wp2;go_ret;exact⟨aS (by rw[H.out,yR n ds L.out,U.out];rfl),E.out⟩
 ·
  by_cases q:3<=ds.length
  .obtain⟨g',S,_,x1,q1,t1,r1,i,a0,a1,a2,a3,a4⟩:=h0.out 1 (by omega);cases S;have G:Hid (ds.getD 1 (num 0)=ds[1]):=by show _=_;rw[pk,fA (by omega)];rfl
   have hf:Hid (ds.getD 1 (ju [])=ds[1]):=by show _=_;rw[pk,fA (by omega)];rfl
   generalize ds[1]=T at *
   simp only[PS] at a0 a1 a2 a3 a4;have i0:(3:Int)<=(ds.length:Int):=by omega
   have i1:(1:Int)<(ds.length:Int):=by omega
   have i2:(2:Int)<=(ds.length:Int):=by omega
   have i3:(2:Int)<(cap:Int):=by omega
   rcases Qh i with⟨hx,h4⟩|⟨hx,y,ys,bb,c1,c2,n',ho,rfl,hp,M,hk,hl,h5,X⟩
   .have HX:Hid ((aE T).length=0):=h4;have Z:=ag q;have R:=ag i;have O:Hid (aG (n+1) (.agg ds)=(decide (ds.length=3)&&cI T&&(ds.drop 2).all (aG n))):=by
     show _=_;rw[n7 n ds L.out,G.out,fb (by rw[h4];omega),hf.out]
    clear i h4;by_cases h1:ds.length=3
    .have b3:((ds.length:Int)==3)=true:=by rw[xb];omega
     have hh:=ag h1;clear h1 q;go_wp2_with fail;refine(iS n T (az x1 q1 t1 r1) _ R.out).mono ?_;rintro e V ⟨rfl,c⟩;have d:=ag (show Below w.heap.size w V from E.out.trans (c.mono E.out.size));have HB2':=ag c;clear c;cases hvd:cI T with
     |false=>
      go_wp2;go_ret;exact⟨aS (by rw[H.out,O.out,hvd,RB];rfl),d.out⟩
     |true=>
      go_wp2_with fail;refine(iI n J.out (css.drop 2) (ds.drop 2) _ _ (by exact jX 2 (A.out.rd.below HB2'.out) (l.out.below HB2'.out) (by omega)) (dT.drop 2 (l.out.below HB2'.out)) (by simp;omega)).mono ?_;rintro e w3 ⟨rfl,u⟩;have F:=ag u;clear u;go_wp2;go_ret;exact⟨aS (by rw[H.out,O.out,hvd,hh.out];rfl),d.out.trans (F.out.mono d.out.size)⟩
    .have b3:((ds.length:Int)==3)=false:=by rw[j2];omega
     have U:Hid (decide (ds.length=3)=false):=zd h1;clear h1 q;go_wp2;go_ret;exact⟨aS (by rw[H.out,O.out,U.out];rfl),E.out⟩
   .subst ho;subst hp;have O:Hid (aG (n'+1+1) (.agg ds)=(cI y&&bn [] ys&&(ds.drop 2).all (aG (n'+1)))):=by
     show _=_;rw[n7 _ ds L.out,G.out,fN (by simp[aE];omega)];rfl
    obtain⟨k1,m1,s1,p1,rfl⟩:=T7 _ _ _ h5;obtain⟨k2,m2,s2,p2,rfl⟩:=T7 _ _ _ X;have y0:=ae M 0;have y1:=ae M 1;have y2:=ae M 2;have y3:=ae M 3;have y4:=ae M 4;simp[az] at y0 y1 y2 y3 y4;have hj:=ag h5;have h7:=ag X;have he:=ag M;have hq:=ai M;have Z:=ag q;clear i h5 X M q hk hl;go_wp2_with fail;refine(iS n' y (az k1 m1 s1 p1) _ hj.out).mono ?_;rintro e V ⟨rfl,c⟩;have d:=ag (show Below w.heap.size w V from E.out.trans (c.mono E.out.size));have HB2':=ag c;have h8:V.cell? (dq g (5+3))=some (.pointer (eb bb)):=by rw[c.cell (p:=(dq g (5+3))) hg];exact a3
    have I:=(TW (λ_=>False) c).at he.out (λh=>h);have z5:=ae I 5;have z6:=ae I 6;have z7:=ae I 7;have z8:=ae I 8;have z9:=ae I 9;simp[az] at z5 z6 z7 z8 z9 h8;clear c I y0 y1 y2 y3 y4;cases hvd:cI y with
    |false=>
     go_wp2;go_ret;exact⟨aS (by rw[H.out,O.out,hvd];rfl),d.out⟩
    |true=>
     go_wp2_with fail;refine(i9 n' (.agg ys) (az k2 m2 s2 p2) _ (by exact RV.ak (TX HB2'.out) _ _ _ h7.out)).mono ?_;rintro e w3 ⟨rfl,u⟩;have F:=ag (show Below w.heap.size w w3 from d.out.trans (u.mono d.out.size));have HB3':=ag (HB2'.out.trans (u.mono HB2'.out.size));clear u z5 z6 z7 z8 z9 h8;cases hvs:bn [] ys with
     |false=>
      have h6:(aX (.agg ys)&&bn [] (aE (.agg ys)))=false:=hvs;rw[h6];go_wp2;go_ret;exact⟨aS (by rw[H.out,O.out,hvs,RB];rfl),F.out⟩
     |true=>
      have h6:(aX (.agg ys)&&bn [] (aE (.agg ys)))=true:=hvs;rw[h6];go_wp2_with fail;refine(iI _ J.out (css.drop 2) (ds.drop 2) _ _ (by exact jX 2 (A.out.rd.below HB3'.out) (l.out.below HB3'.out) (by have:=Z.out;omega)) (dT.drop 2 (l.out.below HB3'.out)) (by simp;omega)).mono ?_;rintro e w4 ⟨rfl,h9⟩;have hc:=ag h9;clear h9;go_wp2;go_ret;exact⟨aS (by rw[H.out,O.out,hvd,hvs];rfl),F.out.trans (hc.out.mono F.out.size)⟩
  .have i2:¬(3:Int)<=(ds.length:Int):=by omega
   have i4:((ds.length:Int)==3)=false:=by rw[j2];omega
   have U:Hid (aG (n+1) (.agg ds)=false):=by
    show _=_;rw[n7 n ds L.out,fb (by omega),zd (show ¬ds.length=3 from by omega)];rfl
   clear q;go_wp2;go_ret;exact⟨aS (by rw[H.out,U.out]),E.out⟩
 ·
  by_cases q:3<=ds.length
  .obtain⟨g',S,_,x1,q1,t1,r1,i,a0,a1,a2,a3,a4⟩:=h0.out 1 (by omega);cases S;have G:Hid (ds.getD 1 (num 0)=ds[1]):=by show _=_;rw[pk,fA (by omega)];rfl
   generalize ds[1]=T at *
   simp only[PS] at a0 a1 a2 a3 a4;have i0:(3:Int)<=(ds.length:Int):=by omega
   have i1:(1:Int)<(ds.length:Int):=by omega
   have i2:(2:Int)<=(ds.length:Int):=by omega
   have i3:(2:Int)<(cap:Int):=by omega
   have Z:=ag q;have R:=ag i;clear q i;go_wp2_with fail;refine(vO n J.out T (az x1 q1 t1 r1) _ R.out).mono ?_;rintro e V ⟨rfl,c⟩;have d:=ag (show Below w.heap.size w V from E.out.trans (c.mono E.out.size));have HB2':=ag c;clear c;cases hvd:ue n T with
   |false=>
    go_wp2;go_ret;exact⟨aS (by rw[H.out,BO _ ds L.out,G.out,hvd,RB];rfl),d.out⟩
   |true=>
    go_wp2_with fail;refine(iI _ J.out (css.drop 2) (ds.drop 2) _ _ (by exact jX 2 (A.out.rd.below HB2'.out) (l.out.below HB2'.out) (by omega)) (dT.drop 2 (l.out.below HB2'.out)) (by simp;omega)).mono ?_;rintro e w3 ⟨rfl,u⟩;have F:=ag u;clear u;go_wp2;go_ret;exact⟨aS (by rw[H.out,BO _ ds L.out,G.out,hvd,Sh Z.out];rfl),d.out.trans (F.out.mono d.out.size)⟩
  .have i2:¬(3:Int)<=(ds.length:Int):=by omega
   have U:Hid (decide (3<=ds.length)=false):=zd q;clear q;go_wp2;go_ret;exact⟨aS (by rw[H.out,BO n ds L.out,U.out];rfl),E.out⟩
 ·
  go_wp2_with fail;refine(iI n J.out css ds _ _ A.out.rd l.out (by omega)).mono ?_;rintro e V ⟨rfl,c⟩;have d:=ag c;clear c;go_wp2;go_ret;exact⟨aS (by rw[H.out,OG n ds L.out hd]),E.out.trans (d.out.mono E.out.size)⟩
theorem lj(k m:Int)(s:ao)(p:a8)(w:aa)(n:Nat)(d:D)(q:RV w (n+1) (az k m s p) d)(h3:(k==3)=false)(i:(k==5)=false):
  cl 45 #[.agg (az k m s p)] w λe w'=>e=.returned (.bool (k !=4))/\Below w.heap.size w w':=by
 have u:(k !=5)=true:=by rw[bne,i];rfl
 have h:=ag (iz k m s p · i);clear q;unfold az;go_enter func45,ntmps45;go_wp2_with fail;refine(h.out _).mono ?_;rintro e w1 ⟨rfl,b⟩;have c:Below w.heap.size w w1:=(aR _ _).trans (b.mono (by simp));have l:w1.cell? (dq w.heap.size 0)=some (Jn k):=by
  rw[b.cell (p:=(dq w.heap.size 0)) (by simp)];exact Cb _ _ _ 0 rfl
 have j:=ag c;clear c b;go_wp2;go_ret;exact⟨rfl,j.out⟩
theorem Io(m:Int)(s:ao)(p:a8)(w:aa):
  cl 45 #[.agg (az 3 m s p)] w λe w'=>e=.returned (.bool (!(l7 s.data.toList)))/\Below w.heap.size w w':=by
 unfold az;go_enter func45,ntmps45;go_wp2_with fail;refine(nB 3 m s p _).mono ?_;rintro e w1 ⟨rfl,b⟩;have c:Below w.heap.size w w1:=(aR _ _).trans (b.mono (by simp));have d:=ag c;clear c b;go_wp2;go_ret;exact⟨rfl,d.out⟩
theorem yX:∀n,nM n
 |0=>λd cs w h=>h.elim
 |n+1=>λd cs w h=>by
  match d,h with
  |.agg [],h=>
   have c:=h.2;have c:cs=az 4 0 aZ none:=c;subst c;exact lj 4 0 aZ none w n (.agg []) h rfl rfl
  |.agg (y::i),h=>exact EY n (yX n) (y::i) (by simp) cs w h _ rfl
  |.lit (.int q z),h=>cases q<;>first|(cases h;done)|(have c:some _=some cs:=h;cases c;exact lj _ _ _ _ w n _ h rfl rfl)
  |.lit (.bool b),h=>have c:some _=some cs:=h;cases c;exact lj _ _ _ _ w n _ h rfl rfl
  |.lit (.string t),h=>have c:some _=some cs:=h;cases c;exact Io _ _ _ w
  |.nil,h=>have c:some _=some cs:=h;cases c;exact lj _ _ _ _ w n _ h rfl rfl
theorem lX(n:Nat):∀(ds:List D) (i k:Nat) (b:k<=ds.length),(∀j (l:j<k),aG n (ds[j]'(by omega))=true)->dX n i ds=dX n (i+k) (ds.drop k)
 |ds,i,0,_,_=>by simp
 |[],i,k+1,b,_=>absurd b (by simp)
 |d::r,i,k+1,b,h=>by
  have c:=h 0 (by omega);simp at c;rw[dX,fN c,lX n r (i+1) k (by simpa using b) (λj l=>by have:=h (j+1) (by omega);simpa using this)];simp only[yd]
  congr 1;omega
def xY(l:au)(w:aa)(e:bo)(w':aa):Prop:=∃v,e=.returned (.tuple #[v,Jn (fH l).1,Jn (fH l).2])/\Below w.heap.size w w'/\((fH l).1=0->∃a f,dz (l.length+1) l 0 []=.inr f/\dl w.heap.size w' v a/\dT w' 21 a f/\f.length<=1000/\ko w' w.heap.size a w'.heap.size)
theorem sx(s:ao)(h4:s.size<=maxLen)(w:aa):cl 33 #[.string s] w (xY s.data.toList w):=by
 by_cases hs:1000<s.size
 .have i1:(1000:Int)<(s.size:Int):=by omega
  have y:Hid (fH s.data.toList=(1,1000)):=by show _=_;unfold fH;rw[fN (by simpa using hs)]
  go_enter func33,ntmps33;go_wp2
  go_ret3
  exact⟨_,by rw[y.out];rfl,fL _ _,λh=>by rw[y.out] at h;cases h⟩
 .have hs:s.size<=1000:=by omega
  have i1:(s.size:Int)<=1000:=by omega
  have X:=ag (JH s hs);go_enter func33,ntmps33;go_wp2_with fail;refine(X.out _).mono ?_;rintro e w1 ⟨A,h1,h2⟩;cases hr:dz (s.data.toList.length+1) s.data.toList 0 [] with
  |inl ep=>
   obtain⟨er,pp⟩:=ep;obtain⟨rfl,I⟩:=h1 er pp hr;have bne0:(er !=0)=true:=by rw[SC];exact I
   have y:Hid (fH s.data.toList=(er,(pp:Int))):=by show _=_;unfold fH;rw[fb (by simp;omega),hr]
   have J:=ag A;have W:=ag I;clear h1 h2 hr I A;go_wp2
   go_ret3
   exact⟨_,by rw[y.out];rfl,J.out,λh=>by rw[y.out] at h;exact absurd h W.out⟩
  |inr f=>
   obtain⟨v,css,rfl,l,q,S,U⟩:=h2 f hr;have H:=ag (ei hr (ei S U));clear U;have y:Hid (fH s.data.toList=match dX 21 0 f with|some i=>(4,(i:Int))|none=>(0,0)):=by show _=_;unfold fH;rw[fb (by simp;omega),hr];rfl
   obtain⟨a,cap,rfl,h5,h3,N⟩:=sD l q;have J:=ag A;have L:=ag l;have M:=ag q;have V:=ag N;unfold maxLen at h3;clear h1 h2 hr A l q N;go_wp2_with fail
   go_loopw [8] (λi wr=>∃k:Nat,k<=f.length/\i=Jn k/\(∀j (D:j<k) (hf:j<f.length),aG 21 f[j]=true)/\Below w1.heap.size w1 wr) (λi _=>f.length-(intOf i).toNat)
   case atStart=>exact⟨0,kc _,rfl,λj D=>absurd D (by omega),fL _ _⟩
   case round=>
    obtain⟨k,hk,rfl,F,c⟩:=hrel;have d:=ag F;clear F;by_cases hlt:k<f.length
    .obtain⟨g,rfl,R,x,m,t,p,T,c0,c1,c2,c3,c4⟩:=V.out k hlt;have d0:wr.cell? (dq g (k *5))=some (Jn x):=by rw[c.cell (p:=(dq g (k *5))) R];exact c0
     have d1:wr.cell? (dq g (k *5+1))=some (Jn m):=by rw[c.cell (p:=(dq g (k *5+1))) R];exact c1
     have d2:wr.cell? (dq g (k *5+2))=some (.string t):=by rw[c.cell (p:=(dq g (k *5+2))) R];exact c2
     have d3:wr.cell? (dq g (k *5+3))=some (.pointer p):=by rw[c.cell (p:=(dq g (k *5+3))) R];exact c3
     have d4:wr.cell? (dq g (k *5+4))=some (.pointer none):=by rw[c.cell (p:=(dq g (k *5+4))) R];exact c4
     have Z:=ag T;have b:=ag c;clear T c c0 c1 c2 c3 c4;go_wp2_with fail;refine(yX 21 f[k] (az x m t p) _ (by exact RV.ak (TX b.out) _ _ _ Z.out)).mono ?_;rintro e w2 ⟨rfl,O⟩;have G:Below w1.heap.size w1 w2:=b.out.trans (O.mono b.out.size);have E:=ag G;clear O G d0 d1 d2 d3 d4;cases hvd:aG 21 f[k] with
     |false=>
      have u:Hid (dX 21 0 f=some k):=by
       show _=_;rw[lX 21 f 0 k (by omega) (λj D=>d.out j D (by omega)),K1 hlt,dX,fb (by simp[hvd]),C4]
      clear hvd;go_wp2
      go_ret3
      exact⟨_,by rw[y.out,u.out];rfl,J.out.trans (E.out.mono J.out.size),λh=>by rw[y.out,u.out] at h;cases h⟩
     |true=>
      have h0:=ag hvd;clear hvd;go_wp2;go_roundw
      case rel=>exact⟨k+1,by omega,by go_num,λj D hf=>by rcases P5 (SZ D) with h|h;exact d.out j h hf;subst h;exact h0.out,E.out⟩
      case measure=>simp[intOf];omega
    .have hk:k=f.length:=by omega
     subst hk;have u:Hid (dX 21 0 f=none):=by
      show _=_;rw[lX 21 f 0 f.length (ew _) (λj D=>d.out j D D),RK];rfl
     have b:=ag c;clear c;go_wp2
     go_ret3
     exact⟨_,by rw[y.out,u.out];rfl,J.out.trans (b.out.mono J.out.size),λ_=>⟨css,f,H.out.1,aq L.out (TW (λ_=>False) b.out) (λ_ _ h=>h),dT.ak (TX b.out) _ _ _ M.out,H.out.2.1,H.out.2.2.ak (qg.ak (TX b.out)) b.out.size⟩⟩
mutual
theorem O3 {d a:D}:AV d a->tI d->tI a
 |.same _,h=>h
 |.mark _ _,h=>h
 |.list h1,h=>Cw h1 h
theorem Cw {l l':List D}:iF l l'->lE l->lE l'
 |.nil,h=>h
 |.cons h1 h2,h=>⟨O3 h1 h.1,Cw h2 h.2⟩
end
def Q5(w:aa)(vs:a7)(f a:List D):Prop:=qy w 21 vs f a
theorem Oy(w:aa)(vs:a7)(f:List D)(h:cH w 21 vs f):∃f',Q5 w vs f f'/\cH w 21 vs f'/\dX 21 0 f'=dX 21 0 f/\fT f'=fT f:=by
 obtain⟨f',h1,h2⟩:=Dq 21 vs f h;exact⟨f',h1,h2,Ha 21 h1.l 0,xS h1.l⟩
structure CB(w:aa)(Y:a9)(C:Nat)(fo:Sl)(b:Nat)(z:BS)(vs:List V)(fx:List X):Prop where
 cc:w.heap[C]? =some (Obj.cells #[.pointer (some ⟨b,0,none⟩)] 89 (0,0))
 co:Code w.heap.size w Y b (dp z vs)
 gz:GZ z
 fa:nN z vs fx 0
 fr:∃n cs mo,n<=40/\LR w Y fo cs/\cs.length<=1000/\XL w mo n cs fx/\(∀i,mo (2 *i)=none)/\(∀i g,mo i=some g->g<w.heap.size)/\∀i j g,mo i=some g->mo j=some g->i=j
theorem CB.ak{w:aa}{b:Nat}(h:CB w Y C fo b z vs fx)(k:KI w w')(c:w.heap.size<=w'.heap.size)(d:Gn w Y w' Y'):CB w' Y' C fo b z vs fx:=by
 obtain⟨n,cs,mo,h1,h2,h3,j,l,q,u⟩:=h.fr;exact⟨k _ (by decide) _ _ h.cc,(h.co.ak k c d).up,h.gz,h.fa,n,cs,mo,h1,h2.ak d,h3,j.ak k.kr (TV _),l,λi g v=>gr (q i g v) c,u⟩
theorem Pd{w:aa}{v:al}(h:dl B w v css)(q:dT w n css f)(l:∀k,B<=k->k<w.heap.size->¬Y k):∃(fo:Sl) (cs:List Vc),v=.slice fo.a fo.n fo.c/\LR w Y fo cs/\css=cs.map Vc.c:=by
 have i:∀{css:List bc} {f:List D},dT w n css f->∃cs:List Vc,css=cs.map Vc.c:=λ{css}=>by
  induction css with
  |nil=>exact λ_=>⟨[],rfl⟩
  |cons c r u=>
   intro f h;cases f with
   |nil=>exact h.elim
   |cons d f=>
    obtain⟨k,m,s,p,rfl⟩:=T7 _ _ _ h.2.1;obtain⟨cs,e⟩:=u h.2.2;exact⟨⟨k,m,s,p,none⟩::cs,by rw[e];rfl⟩
 obtain⟨cs,rfl⟩:=i q;have b:Row B w v cs:=by
  unfold Row;unfold dl flat at h;rw[ta,List.flatMap_map] at h;exact h
 obtain⟨fo,e,j⟩:=b.lr l;exact⟨fo,cs,e,j,rfl⟩
theorem IM{w:aa}:∀{vs:a7} {f f':List D} {cs:List Vc},qy w n vs f f'->cH w n vs f->dT w n (cs.map Vc.c) f->(∀b g,jB w vs (cs.map Vc.c) b g->mo (2 *b+1)=some g)->lE f->sY w mo n f f' cs
 |[],[],[],[],_,_,_,_,_=>trivial
 |v::vs,d::f,l::f',c::cs,h1,h2,h3,i,j=>⟨⟨v,h1.1,h2.1,h3.2.1,λb g h=>i b g (.inl h),j.1⟩,IM h1.2 h2.2 h3.2.2 (λb g h=>i b g (.inr h)) j.2⟩
 |[],[],[],_::_,_,_,h,_,_=>h.elim
 |[],[],_::_,_,h,_,_,_,_=>h.elim
 |[],_::_,_,_,h,_,_,_,_=>h.elim
 |_::_,[],_,_,h,_,_,_,_=>h.elim
 |_::_,_::_,[],_,h,_,_,_,_=>h.elim
 |_::_,_::_,_::_,[],_,_,h,_,_=>h.elim
theorem Ef{w:aa}:∀{vs:List V} {xs:a7},eV w mo vs xs->∀v∈vs,∃y,VX w mo v y
 |[],[],_,v,b=>by simp at b
 |u::vs,x::xs,h,v,b=>by
  rcases RD.1 b with rfl|b
  .exact⟨x,h.1⟩
  .exact Ef h.2 v b
 |[],_::_,h,_,_=>h.elim
 |_::_,[],h,_,_=>h.elim
theorem EA{w:aa}{l:au}{v:al}(hY:∀k,Y k->k<w.heap.size)(hl:l.length<=1000)(hf:dz (l.length+1) l 0 []=.inr f)(N:Below w.heap.size w w1)(u:Below w1.heap.size w1 w')(h0:cH w1 21 vs0 f)(h2:qh w1 w.heap.size vs0 w1.heap.size)(i:Q5 w1 vs0 f f')(D:bF (aN 21) f'=some ks)(hB:w1.heap.size<=B)(hc:Gv w' B C ks)(h:Below w'.heap.size w' w'')(H:dl w'.heap.size w'' v css)(I:dT w'' 21 css f)(W:f.length<=1000)(J:ko w'' w'.heap.size css w''.heap.size):
  ∃fo b z vs fx,v=.slice fo.a fo.n fo.c/\CB w'' Y C fo b z vs fx:=by
 have h6:=N.size;have h1:=u.size;have h7:=h.size;have q:Below w1.heap.size w1 w'':=u.trans (h.mono h1);have j:aC 205 w1 w'':=TX q;obtain⟨b,hC,h5,R⟩:=hc;have F:=uT l (by omega) _ 0 [] f trivial hf;have G:=Cw i.l F;have h4:fT f'<=8000:=by
  have:=sw l _ 0 [] f (kc _) hf;rw[xS i.l];simp only[fT] at this;omega
 obtain⟨S,L,h8,h3⟩:=EH f' ks G h4 D;obtain⟨vs,hd,y⟩:=LD (X:=Y) (R.below h) S (λk hk _ hy=>by have:=hY k hy;omega);obtain⟨A,V,O⟩:=LC ks L (by omega);obtain⟨fx,U,Z⟩:=DG hd O ks 0 L V;obtain⟨fo,cs,rfl,hL,rfl⟩:=Pd (Y:=Y) H I (λk hk _ hy=>by have:=hY k hy;omega);obtain⟨mo,m1,m2,m3,m4⟩:=Ql (h2.ak (lG.ak j) (ew _)) J;have hI:=IM (mo:=mo) (i.ak j 21) (cH.ak j _ _ _ h0) I m1 F;obtain⟨c,u0,u1,u2,u3,x1,x3,T⟩:=id y;have M:=jL (λd d' c e x=>N1 (Ef T.v1) 21 d d' c e x) hI D U;have E:cs.length<=1000:=by
  rw[hI.NM.2];exact W
 have h9:(dY ks).is.length+(dY ks).cs.length+(dY ks).ns.length+(dY ks).ls.length<=100000:=h3;exact⟨fo,b,dY ks,vs,fx,rfl,(h.block _ (ai hC)).trans hC,y,⟨A,by omega,by omega⟩,Z,21,cs,mo,by omega,hL,E,M,m2,m4,m3⟩
def QT(vs:a7)(cur cur':bc):Prop:=∀(k:Nat) y,cur[k]? =some y->cur'[k]? =some y\/∃x∈vs,cur'[k]? =some x
theorem uO{fr:Nat×Nat}:∀(vs:a7) (o:Nat) (w:aa) (cur:bc),w.heap[g]? =some (.cells cur e fr)->∃cur',(w.setCells g o vs).heap[g]? =some (.cells cur' e fr)/\QT vs cur cur'
 |[],o,w,cur,h=>⟨cur,h,λk y d=>.inl d⟩
 |v::vs,o,w,cur,h=>by
  obtain⟨c,h1,h2⟩:=uO vs (o+1) (w.setCell (dq g o) v) (cur.setIfInBounds o v) (TH h);refine⟨c,h1,λk y d=> ?_⟩;by_cases b:o=k
  .subst b;have j:o<cur.size:=(Sf.1 d).1;rcases h2 o v (by rw[Array.getElem?_setIfInBounds_self_of_lt j]) with h3|⟨x,i,h3⟩
   .exact .inr ⟨v,by simp,h3⟩
   .exact .inr ⟨x,by simp[i],h3⟩
  .rcases h2 k y (by rw[Array.getElem?_setIfInBounds_ne b];exact d) with h3|⟨x,i,h3⟩
   .exact .inl h3
   .exact .inr ⟨x,by simp[i],h3⟩
structure nL(w:aa)(B e s:Nat)(v:al)(n:Nat)(xs a:a7)(g c:Nat)(w':aa):Prop where
 own:w'.ownsRow B e s (.slice (some ⟨g,0,none⟩) (n+1) c) (n+1) (xs++a)
 upd:w.grownBy w' v.ownBlock
 new:v.ownBlock=some g\/w.heap.size<=g
 old:∀j cur,v.ownBlock=some j->w.heap[j]? =some (.cells cur e (0,0))->∃cur',w'.heap[j]? =some (.cells cur' e (0,0))/\QT a cur cur'
theorem Nd(w:aa)(t ty B e:Nat)(i:TypeInfo)(z:al)(s bytes:Nat)(N:P.underlying t=some (.slice e))(hi:P.info? e=some i)(hz:i.zero=some z)(M:i.size=s)(hb:i.bytes=bytes)(J:z.cells.size=s)(h0:0<s)(v:al)(n:Nat)(xs:a7)(q:w.ownsRow B e s v n xs)(H:Addr)(c:Nat)(l:a7)(hl:l.length=s)(L:∀j u,l[j]? =some u->w.cell? (H.add j)=some u)(h1:∀u∈l,u.oneCell'=true)(hm:n+1<=maxLen)(I:(n+1) *bytes<=140737488355328)(hB:B<=w.heap.size):
  ∃g G w',(Builtin.append_ #[t,t] ty #[v,.slice (some H) 1 c]).run P w=.ok (.slice (eb g) (n+1) G) w'/\nL w B e s v n xs l g G w':=by
 have E:l.length=1 *s:=by omega
 rcases q.2 with⟨rfl,rfl⟩|⟨g,cap,cur,rfl,h2,R,h5,h3,h4,W⟩
 .obtain⟨g,G,w',r1,r2,r3,X,r5⟩:=Tt (P:=P) w t ty B e i z s bytes N hi hz M hb J h0 _ 0 xs q H 1 c l E L h1 (by decide) hm I hB _ rfl;exact⟨g,G,w',r1,r2,r3,X.imp id (λh=>by omega),λj cur A=>by cases A⟩
 .by_cases V:n+1<=cap
  .obtain⟨w',r1,r2,r3⟩:=run_append_fits (P:=P) w B t ty e i s N hi M g n cap xs q H 1 c l E L h1 V;subst M;have T:∀j,j<l.length->0+n *i.size+j<cur.size:=λj A=>by
    have:=Ta i.size V;rw[Nat.add_mul] at this;omega
   have F:=run_append_room_cells (P:=P) w t ty e i N hi g 0 n cap H 1 c l E L h1 V (λj A=>by rw[ae R,RL (T j A)];rfl) (λj A=>ah R _);rw[F] at r1;cases r1;refine⟨g,cap,_,F,r2,r3,.inl rfl,λj O A D=> ?_⟩;cases A;exact uO l _ w O D
  .obtain⟨v',w',r1,r2,r3⟩:=run_append_arg_grows (P:=P) w t ty e i z s bytes N hi hz M hb J h0 (dq g 0) n cap xs q.1 (λj u A=>by
    rw[Tq,C4,ae R];have hx:j<n *s:=by have:=(ke.1 A).1;rw[q.1] at this;exact this
    rw[<-W,Bk,fN hx] at A;rw[<-A,C1]) H 1 c l E L (by omega) hm I
   obtain⟨Z,G,rfl,S,_⟩:=r2.form (by omega);have X:w'.ownsRow B e s (.slice (eb Z) (n+1) G) (n+1) (xs++l):=⟨r2.1,by
    rcases r2.2 with⟨h,_⟩|⟨a,b,d,q1,q2,q3⟩
    .cases h
    .exact .inr ⟨a,b,d,q1,by omega,q3⟩⟩
   exact⟨Z,G,w',r1,X,⟨r3.os,r3.tape,r3.output,r3.size,λk U _=>r3.block k U (by simp)⟩,.inr S,λj O A D=>⟨O,by
    cases A;rw[r3.block g (ai D) (by simp)];exact D,λk y U=>.inl U⟩⟩
theorem KG(w:aa)(F G:Operand)(t:bi)(ho:o.op=.call {callee:=.builtin .append,args:= #[F,G],argTypes:= #[t,t]})(B e:Nat)(i:TypeInfo)(z:al)(s bytes:Nat)(M:P.underlying t=some (.slice e))(hi:P.info? e=some i)(N:i.zero=some z)(L:i.size=s)(hb:i.bytes=bytes)(E:z.cells.size=s)(H:0<s)(v:al)(n:Nat)(xs:a7)(A:a.eval F=v)(d:w.ownsRow B e s v n xs)(q:Addr)(c:Nat)(b:a7)(D:a.eval G=.slice (some q) 1 c)(J:b.length=s)(I:∀j u,b[j]? =some u->w.cell? (q.add j)=some u)(h1:∀u∈b,u.oneCell'=true)(hm:n+1<=maxLen)(y:(n+1) *bytes<=140737488355328)(hB:B<=w.heap.size)(h:∀g l w',nL w B e s v n xs b g l w'->K (a.put o.dst (.slice (eb g) (n+1) l)) w'):o.wp P a w K Q:=by
 obtain⟨g,l,w',r1,r2⟩:=Nd (P:=P) w t o.type B e i z s bytes M hi N L hb E H v n xs d q c b J I h1 hm y hB;unfold Oper.wp execOp;simp only[ho,resolve,invoke,builtin,Tm,Sem.run_pure,Result.andThen_ok,List.map_toArray,v6,SS,A,D,r1];exact h g l w' r2
theorem qw(w:aa)(D:o.guard=none)(H I:Operand)(t:bi)(ho:o.op=.call {callee:=.builtin .append,args:= #[H,I],argTypes:= #[t,t]})(B e:Nat)(i:TypeInfo)(z:al)(s bytes:Nat)(R:P.underlying t=some (.slice e))(hi:P.info? e=some i)(S:i.zero=some z)(O:i.size=s)(hb:i.bytes=bytes)(G:z.cells.size=s)(J:0<s)(v:al)(n:Nat)(xs:a7)(E:a.eval H=v)(d:w.ownsRow B e s v n xs)(y:Addr)(c:Nat)(b:a7)(F:a.eval I=.slice (some y) 1 c)(N:b.length=s)(M:∀j u,b[j]? =some u->w.cell? (y.add j)=some u)(h1:∀u∈b,u.oneCell'=true)(hm:n+1<=maxLen)(A:(n+1) *bytes<=140737488355328)(hB:B<=w.heap.size)(h:∀g l w',nL w B e s v n xs b g l w'->wpList P ops Q rest (a.put o.dst (.slice (eb g) (n+1) l)) w'):wpList P ops Q (o::rest) a w:=
 wpList_plain D λ_ L=>KG w H I t ho B e i z s bytes R hi S O hb G J v n xs E d y c b F N M h1 hm A hB λg l w' q=>L _ _ (h g l w' q)
end Go.Proofs.YtlobegpjenabaaaGreatDoor
