import Derived.Test.YtlobegpjenabaaaGreatDoorT04
import Derived.RangeFuncNested
import Derived.RangeFuncBound
import Derived.RangeFuncCalls
import Derived.RangeFuncLeaves
import Derived.Shelf.Abstract
import Derived.Shelf.RegionOpen
import Derived.OwnWalkIn
import Derived.TacticsInMore
import Derived.LoopNIn
import Derived.LoopIn
namespace Go.Proofs.YtlobegpjenabaaaGreatDoor
open Go.RowKit Tryz
set_option linter.unusedVariables false
set_option linter.defProp false
set_option maxRecDepth 100000
set_option maxHeartbeats 4000000
def ze:=@List.length_eq_zero_iff
def RW:=@cell_one_new
def R0:=@List.length_nil
def R4:=@Nat.add_sub_cancel
def Sg:=@List.nil_append
def Sr:=@List.append_nil
def Ss:=@List.sum_cons
def SB:=@grownBy_putObj'
def SI:=@if_false
def S3:=@dif_pos
def S4:=@callsIn_wide
def Tg:=@KeepsOthers.setCell
def Tk:=@dif_neg
def Ty:=@if_true
variable {R B T k:Nat} {fv ov v1 v2 u x v3 u1 u2 u3:al} {w' w1 A C W W1:aa} {fs vs:a7} {is its:List (al×a7)} {z:ao} {S:a9} {opens:List (Bool×List D)} {a:Addr} {f:List D}
def hZ(aH:List D)(opens:List (Bool×List D)):Nat:=aH.length+(opens.map λo=>o.2.length+1).sum
theorem qH(aH:List D):∀(opens:List (Bool×List D)) (d:D),hZ (gQ aH opens d).1 (gQ aH opens d).2<=hZ aH opens+1
 |[],d=>by simp[gQ,hZ]
 |(true,ds)::os,d=>by
  have:=qH aH os (ju [sym sr,d]);simp only[gQ];simp only[hZ,v6,Ss] at *;omega
 |(false,ds)::os,d=>by simp[gQ,hZ];omega
def wV(R:Nat)(w:aa):Nat:=match w.cell? ⟨R,1,none⟩ with|some v=>TQ v|_=>0
theorem sj{w:aa}(h:w.heap[R]? =some (Gs fv ov)):wV R w=TQ ov:=by
 have:=ae (o:=1) h;unfold wV;rw[this];rfl
theorem FQ{w:aa}{b:Nat}(hB:B<=b)(h:w.heap[b]? =some (.cells #[v1,v2] 81)):bT B w (.slice (eb b) 2 2) [v1,v2]:=
 ⟨rfl,RA ⟨b,2,_,rfl,hB,h,ew _,by unfold maxLen;omega,rfl,rfl⟩⟩
def N3(w:aa)(R B:Nat)(aH:List D)(opens:List (Bool×List D))(b:al)(fs:a7)(d:D)(u:al)(wr:aa)(opens1:List (Bool×List D))(a:D)(ov1:al)(its1:List (al×a7)):Prop:=
 gQ aH opens1 a=gQ aH opens d/\fV wr R B aH opens1 b ov1 fs its1/\IV wr (21-opens1.length) u a/\dj R B w wr/\opens1.length<=opens.length/\hZ aH opens1<=hZ aH opens/\qh wr B (fs++its1.flatMap Prod.snd++[u]) wr.heap.size
theorem Oz{w:aa}{v:al}(h:qh w B (fs++(is++[(v,vs)]).flatMap Prod.snd) w.heap.size)(hb:Below w.heap.size w w')(b:∀lo,qh w lo vs w.heap.size->Sp w' lo w'.heap.size u):qh w' B (fs++is.flatMap Prod.snd++[u]) w'.heap.size:=by
 rw[RN,<-RH] at h;obtain⟨m,h1,h2⟩:=h.split;exact(h1.ak (lG.ak (TX hb)) (ew _)).join (eN.one (b m (by simpa using h2)))
theorem O9{w:aa}{v:al}(h:qh w B (fs++(is++[(v,vs)]).flatMap Prod.snd++[x]) w.heap.size)(hb:Below w.heap.size w w1)(c:Below w1.heap.size w1 w')(g:∀lo,qh w1 lo [.iface 134 (.string z),x] w1.heap.size->Sp w' lo w'.heap.size u):qh w' B (fs++is.flatMap Prod.snd++[u]) w'.heap.size:=by
 rw[RN,<-RH,RH] at h;obtain⟨m,h1,h2⟩:=h.split;obtain⟨q,h3,d⟩:=h2.split;have k1:=TX (T:=205) hb;exact(h1.ak (lG.ak (k1.trans (TX c))) h3.le).join (eN.one (g q ⟨q,.atom _ _ _ (ew _) (λb e=>by cases e),d.ak (lG.ak k1) hb.size⟩))
theorem Dp(w:aa)(R B:Nat)(aH:List D)(opens:List (Bool×List D))(fv ov:al)(fs:a7)(its:List (al×a7))(d:D)(u:al)(h:fV w R B aH opens fv ov fs its)(hB:B<=w.heap.size)(H9:opens.length<=20)(h7:hZ aH opens<=1000)(hd:IV w (21-opens.length) u d)(U:qh w B (fs++its.flatMap Prod.snd++[u]) w.heap.size)(r:List D×List (Bool×List D))(HR:Hid (gQ aH opens d=r)):
  cl 86 #[Pt R,u] w λe w'=>e=.returned (.tuple #[])/\∃hY H7 hX its',fV w' R B r.1 r.2 hY H7 hX its'/\dj R B w w':=by
 have HH:=ag h;have HD:=ag hd;have J:=ag U;have Hc:=h.hlt;clear h U;obtain⟨t0,x0,rfl⟩:=IV.form _ _ _ hd;clear hd;go_enter func86,ntmps86;go_wp2
 go_loopw [1] (λu wr=>∃opens1 d1 ov1 its1,N3 w R B aH opens fv fs d u wr opens1 d1 ov1 its1) (λ_ wr=>wV R wr)
 case atStart=>exact⟨opens,d,ov,its,rfl,HH.out,HD.out,dj.refl _ _ _,ew _,ew _,J.out⟩
 case round=>
  clear J;obtain⟨opens1,d1,ov1,its1,h6,i,hw,hA,hQ,hK,U⟩:=hrel;have J:=ag U;clear U;obtain⟨t1,x1,rfl⟩:=IV.form _ _ _ hw;have M:=ag h6;have I:=ag i;have hc:=ag hw;have hi:=ag hA;have Hb:=hA.upd.size;have hO:=i.hits.length;simp only[Sy] at hO;have H1:=ai i.hR;clear h6 hw hA
  match opens1,i with
  |[],i=>
   have ht:its1=[]:=by cases its1 with|nil=>rfl|cons a b=>simp at hO
   subst ht;obtain⟨a,K,hv,He,Hf,_⟩:=ay i.ho;obtain⟨af,capf,H4,Hg,Hh,_⟩:=ay i.hf;subst hv;subst H4;have c0:=ae i.hR 0;have c1:=ae i.hR 1;have f0:=ah i.hR 0;simp at c0 c1;have hp:=i.hfi.length;have Hi:fs.length<=1000:=by rw[hp];simp[hZ] at h7;omega
   obtain⟨i0,n,X,Y,Z⟩:=sv jQ;have HI:=ag (ei n (ei X (ei Y Z)));have hU:=ag hp;clear n X Y Z i hp;go_wp2_with (at_builtin;refine nl _ rfl (.tmp 34) (.tmp 36) 76 rfl B 81 i0 .nilIface 1 16 underlying76 HI.out.1 HI.out.2.1 HI.out.2.2.1 HI.out.2.2.2 rfl (by decide) _ fs.length fs rfl (I.out.hf.alloc _) (dq wr.heap.size 0) 1 1 [.iface t1 x1] rfl rfl (RW _ _ _) (by intro u hu;simp at hu;subst hu;rfl) (by decide) (by unfold maxLen;omega) (by omega) (by simp;omega) (wr.heap.size+1) (by simp) ?_);intro g' cap' w2 l j h3 hP;have p:=bC j;have hj:=p.at I.out.hR (λhx=>by have:=(ar I.out.hf hx).1;omega);have d0:=ae hj 0;have f0:=ah hj 0;simp at d0;have he:=ag l;have hh:=ag p;clear l j p hj h3 c0 c1;go_wp2;refine TT ?_;refine⟨rfl,?_⟩;obtain⟨Q,V⟩:=L0 (d:=d1) I.out hU.out hc.out (by simpa using J.out) hh.out he.out _ rfl;have hr:r=(aH++[d1],[]):=by rw[<-HR.out,<-M.out];rfl
   rw[hr];exact⟨_,_,_,_,Q,hi.out.trans V⟩
  |(true,ds)::os,i=>
   obtain⟨g,K,hC,v,vs,rfl,rfl,hs,E,F,H0,hM,cq,cv,fz,hz,o,G,hy⟩:=i.inner;have c1:=ae i.hR 1;simp at c1;have H3:(0:Int)<((os.length+1:Nat):Int):=by omega
   have m:=ag i.hR;have t:=ag (λw' hq=>gH R g (os.length+1) K fv w' hq (by omega) E F);clear i hz o G hy;go_wp2_with fail;refine(t.out _ m.out).mono ?_;rintro e w1 ⟨rfl,nq,rfl⟩;simp only[R4];go_wp2_with fail;have Hj:os.length<=19:=by simp at hQ;omega
   have hm:∀q,Below wr.heap.size wr ((wr.alloc (.cells #[.iface 134 (.string ⟨#[113,117,111,116,101]⟩),.iface t1 x1] 81)).drewN q):=λq=>aB.below (((TU (λ_=>False) wr).alloc _).drewN q) (ew _) (λ_ h=>h.elim);refine(uA (20-os.length) [.iface 134 (.string ⟨#[113,117,111,116,101]⟩),.iface t1 x1] [sym sr,d1] _ _ B (by exact FQ (by omega) (fK wr _)) ?_ (by simp)).mono ?_
   .refine⟨?_,?_,trivial⟩
    .rw[show 20-os.length=(19-os.length)+1 from by omega];rfl
    .have:=hc.out;rw[show 21-((true,ds)::os:List (Bool×List D)).length=20-os.length from by simp only[j1];omega] at this;exact IV.ak (TX (hm _)) _ _ _ this
   rintro e w2 ⟨u2,rfl,P,hn,hb⟩;obtain⟨t2,x2,rfl⟩:=IV.form _ _ _ P;have hI:=ag (O9 J.out (hm _) hn hb);clear hb;have N:Below wr.heap.size wr w2:=(hm _).trans (hn.mono (by simp));have h8:=I.out.below N;have y:=ag h8;have hE:=ag P;have hD:=ag N;clear P hn N h8;go_wp2_with fail;refine(uI R g (os.length+1) K fv _ y.out.hR (by omega) E F).mono ?_;rintro e w3 ⟨rfl,h1,h2⟩;rw[R4] at h1;have h9:=zI y.out hs h1 h2;have hN:aC 205 w2 w3:=T1 h2 (by intro k c hx;subst hx;rw[y.out.hR];simp[Gs]);have hG:=ag h9;have hF:=ag hN;have hJ:=ag h2;have hV:=ag h1;clear h9 hN h2 h1;go_wp2;go_roundw
   case rel=>
    refine⟨os,ju [sym sr,d1],_,hC,by rw[<-M.out];rfl,hG.out,?_,?_,by simp at hQ;omega,by simp[hZ] at hK ⊢;omega,hI.out.ak (lG.ak hF.out) hJ.out.size⟩
    .have:=IV.ak hF.out _ _ _ hE.out;rw[show 20-os.length+1=21-os.length from by omega] at this;exact this
    .exact(hi.out.trans (dj.aj hD.out)).trans (dj.aT hJ.out (λk hk=>⟨RP hk,vT y.out.hR hk⟩))
   case measure=>
    rw[sj m.out,sj hV.out];simp[TQ]
  |(false,ds)::os,i=>
   obtain⟨g,K,hC,v,vs,rfl,rfl,hs,E,F,H0,hM,cq,cv,fz,hz,o,G,hy⟩:=i.inner;have c1:=ae i.hR 1;simp at c1;have H3:(0:Int)<((os.length+1:Nat):Int):=by omega
   have H8:(((os.length+1:Nat):Int)==0)=false:=by rw[j2];omega
   have m:=ag i.hR;have t:=ag (λw' hq=>gH R g (os.length+1) K fv w' hq (by omega) E F);have hS:=G.length;have hL:hZ aH ((false,ds)::os)<=1000:=ku hK h7;have Hm:vs.length<1000:=by rw[hS];simp only[hZ,v6,Ss] at hL;omega
   obtain⟨a,capv,H5,Hk,Hl,_⟩:=ay o;have hH:=ag o;obtain⟨i0,n,X,Y,Z⟩:=sv jQ;have HI:=ag (ei n (ei X (ei Y Z)));clear n X Y Z i hz o G hy hS;go_wp2_with fail;refine(t.out _ m.out).mono ?_;rintro e w1 ⟨rfl,nq,rfl⟩;simp only[R4];go_wp2_with fail;refine(t.out (wr.drewN nq) m.out).mono ?_;rintro e w1 ⟨rfl,nq2,rfl⟩;simp only[R4]
   generalize hl:(wr.drewN nq).drewN nq2=L
   have h4:aB (λ_=>False) wr L:=by rw[<-hl];exact((TU _ wr).drewN nq).drewN nq2
   have O:L.heap=wr.heap:=by rw[<-hl];rfl
   clear hl;have hW:L.cell? (dq g (os.length *2+1))=some v:=by rw[xo (w:=wr) (by rw[O])];exact cv
   have h5:Hid (fV L R B aH ((false,ds)::os) fv (.slice (eb g) (os.length+1) K) fs (hC++[(v,vs)])):=I.out.below (h4.below (ew _) (λ_ h=>h.elim));have hg:Hid (bT B L v vs):=aq hH.out h4 (λ_ _ h=>h);have H2:g<L.heap.size:=by rw[O];exact hM
   have Ha:B<=L.heap.size:=by rw[O];omega
   have Hd:R<L.heap.size:=by rw[O];exact H1
   have h0:=ag h4;subst H5;clear h4 O cv cq c1 fz;go_wp2_with (at_builtin;refine nl _ rfl (.tmp 46) (.tmp 48) 76 rfl B 81 i0 .nilIface 1 16 underlying76 HI.out.1 HI.out.2.1 HI.out.2.2.1 HI.out.2.2.2 rfl (by decide) _ vs.length vs rfl (hg.out.alloc _) (dq L.heap.size 0) 1 1 [.iface t1 x1] rfl rfl (RW _ _ _) (by intro u hu;simp at hu;subst hu;rfl) (by decide) (by unfold maxLen;omega) (by omega) (by simp;omega) (L.heap.size+1) (by simp) ?_);intro g' cap' w2 l j h3 hP;have p:=bC j;obtain⟨gx,capx,isx,vx,vsx,ex,H6,_,_,_,_,_,_,cvx,_,_,s,_,H⟩:=h5.out.inner;obtain⟨rfl,ex2⟩:=Tr ex rfl;cases ex2;cases H6;have ha:=aq H p (λk hk hx=>eo H s (by decide) hk hx);have f2:=ha.frozenAt (os.length *2+1);have c2:w2.cell? (dq g (os.length *2+1))=some (.slice a vs.length capv):=by
    rw[xo (w:=L) (p.block g H2 (λhx=>eo H s (by decide) (show Value.ownBlock _=some g from rfl) hx))];exact cvx
   have he:=ag l;have hh:=ag p;have hT:Hid ((Value.slice a vs.length capv).ownBlock=some g'\/L.heap.size<=g'):=h3.imp id (λh=>by omega);clear l j p ha H s cvx hW h3;go_wp2
   go_end0
   refine⟨rfl,?_⟩;obtain⟨Q,V⟩:=L8 (d:=d1) h5.out hs (by have:=hc.out;rw[show 21-((false,ds)::os:List (Bool×List D)).length=20-os.length from by simp only[j1];omega] at this;exact IV.ak (T1 h0.out (λ_ _ h=>h.elim)) _ _ _ this) (J.out.ak (lG.ak (T1 h0.out (λ_ _ h=>h.elim))) h0.out.size) hh.out hT.out he.out _ rfl;have hr:r=(aH,(false,ds++[d1])::os):=by rw[<-HR.out,<-M.out];rfl
   rw[hr];exact⟨⟨_,_,_,_,Q⟩,(hi.out.trans (dj.aT h0.out (λ_ h=>h.elim))).trans V⟩
theorem ED(w:aa)(R B:Nat)(aH:List D)(opens:List (Bool×List D))(fv ov:al)(fs:a7)(its:List (al×a7))(h:fV w R B aH opens fv ov fs its)(hB:B<=w.heap.size)(hh:opens.length<=20)(E:hZ aH opens<=1000):
  cl 85 #[Pt R] w λe w'=>
   ((opens=[]\/∃ds os,opens=(true,ds)::os)->e=.returned (Jn 2)/\Below w.heap.size w w')/\
   (∀ds os,opens=(false,ds)::os->e=.returned (Jn 0)/\∃L X K its',fV w' R B (gQ aH os (ju ds)).1 (gQ aH os (ju ds)).2 L X K its'/\dj R B w w'):=by
 have HH:=ag h;have hr:=h.hlt
 match opens,h with
 |[],h=>
  have Q:its=[]:=by have:=h.hits.length;cases its with|nil=>rfl|cons a b=>simp at this
  subst Q;obtain⟨a,p,hv,hs,ht,_⟩:=ay h.ho;subst hv;have c1:=ae h.hR 1;simp at c1;clear h;go_enter func85,ntmps85;go_wp2;go_ret;exact⟨λ_=>⟨rfl,fL _ _⟩,λds os h=>by cases h⟩
 |(true,ds)::os,h=>
  obtain⟨g,p,he,v,vs,rfl,rfl,ha,j,l,hj,hm,cq,cv,fz,V,n,m,U⟩:=h.inner;have c1:=ae h.hR 1;simp at c1;have hc:(((os.length+1:Nat):Int)==0)=false:=by rw[j2];omega
  have d:=ag (gH R g (os.length+1) p fv w h.hR (by omega) j l);clear h V n m U;go_enter func85,ntmps85;go_wp2_with fail;refine d.out.mono ?_;rintro e w1 ⟨rfl,nq,rfl⟩;simp only[R4];go_wp2;go_ret;exact⟨λ_=>⟨rfl,aB.below ((TU (λ_=>False) w).drewN nq) (ew _) (λ_ h=>h.elim)⟩,λds os h=>by cases h⟩
 |(false,ds)::os,h=>
  obtain⟨g,p,he,v,vs,rfl,rfl,ha,j,l,hj,hm,cq,cv,fz,V,n,m,U⟩:=h.inner;have c1:=ae h.hR 1;simp at c1;have hc:(((os.length+1:Nat):Int)==0)=false:=by rw[j2];omega
  have d:=ag (λw' hq=>gH R g (os.length+1) p fv w' hq (by omega) j l);have Z:=ag h.hR;have y:=ag n;have h1:=ag m;have hl:ds.length<=1000:=by simp only[hZ,v6,Ss] at E;omega
  have h9:hZ aH os<=1000:=by simp only[hZ,v6,Ss] at E ⊢;omega
  have hu:os.length<=19:=by simp at hh;omega
  clear h V n m U;go_enter func85,ntmps85;go_wp2_with fail;refine(d.out w Z.out).mono ?_;rintro e w1 ⟨rfl,nq,rfl⟩;simp only[R4];go_wp2_with fail;refine(d.out (w.drewN nq) Z.out).mono ?_;rintro e w1 ⟨rfl,nq2,rfl⟩;simp only[R4]
  generalize N:(w.drewN nq).drewN nq2=wd
  have hd:aB (λ_=>False) w wd:=by rw[<-N];exact((TU _ w).drewN nq).drewN nq2
  have P:wd.heap=w.heap:=by rw[<-N];rfl
  clear N;have h7:wd.cell? (dq g (os.length *2+1))=some v:=by rw[xo (w:=w) (by rw[P])];exact cv
  have O:Below w.heap.size w wd:=hd.below (ew _) (λ_ h=>h.elim);have t:=ag (HH.out.below O);have J:=ag O;have hp:B<=wd.heap.size:=by rw[P];omega
  obtain⟨av,capv,o,_,_,_⟩:=ay y.out;have hg:=ag o;rw[o] at h7;clear hd P cv cq c1 fz o O;go_wp2_with fail;have o:=hg.out;rw[<-o];refine(uA (20-os.length) vs ds v _ B (aq y.out (TW (λ_=>False) J.out) (λ_ _ h=>h)) (cH.ak (TX J.out) _ _ _ h1.out) hl).mono ?_;rintro e w2 ⟨u2,rfl,r,s,I⟩;obtain⟨t2,x2,rfl⟩:=IV.form _ _ _ r;have h5:=ag (Oz t.out.sp s I);clear I;have F:=t.out.below s;have i:=ag F;have h0:=ag r;have Y:=ag s;clear r s F o h7;go_wp2_with fail;refine(uI R g (os.length+1) p fv _ i.out.hR (by omega) j l).mono ?_;rintro e w3 ⟨rfl,M,q⟩;rw[R4] at M;have G:=zI i.out ha M q;have hb:aC 205 w2 w3:=T1 q (by intro k c hx;subst hx;rw[i.out.hR];simp[Gs]);have hi:B<=w3.heap.size:=by have:=q.size;have:=Y.out.size;omega
  have h3:=ag G;have h2:=ag hb;have h6:=ag q;clear G hb q M;go_wp2_with fail;refine(Dp w3 R B aH os fv _ fs he (ju ds) (.iface t2 x2) h3.out hi (by omega) h9 (by have:=IV.ak h2.out _ _ _ h0.out;rw[show 20-os.length+1=21-os.length from by omega] at this;exact this) (h5.out.ak (lG.ak h2.out) h6.out.size) _ rfl).mono ?_;rintro e w4 ⟨rfl,L,X,K,its',H,h8⟩;have h4:=ag H;have hf:=ag h8;clear H h8;go_wp2;go_ret;refine⟨λh=> ?_,λhn hw h=> ?_⟩
  .rcases h with h|⟨_,_,h⟩<;>cases h
  .cases h;exact⟨rfl,L,X,K,its',h4.out,(((dj.aj J.out).trans (dj.aj Y.out)).trans (dj.aT h6.out (λk hk=>⟨RP hk,vT i.out.hR hk⟩))).trans hf.out⟩
def nV(aH:List D):List (Bool×List D)->Sum Int (List D×List (Bool×List D))
 |(false,ds)::os=>.inr (gQ aH os (ju ds))
 |_=>.inl 2
def bJ(aH:List D)(opens:List (Bool×List D))(t:au):Sum Int (List D×List (Bool×List D)):=
 if bI t=1 then(if 20<=opens.length then .inl 3 else .inr (aH,(false,[])::opens))
 else if bI t=3 then(if 20<=opens.length then .inl 3 else .inr (aH,(true,[])::opens))
 else if bI t=2 then nV aH opens
 else match ig t with
  |some d=>if bI t=0 then .inl 2 else .inr (gQ aH opens d)
  |none=>.inl 2
def GP(w:aa)(R B:Nat)(r:Sum Int (List D×List (Bool×List D)))(e:bo)(w':aa):Prop:=
 dj R B w w'/\(∀er,r=.inl er->e=.returned (Jn er))/\(∀st,r=.inr st->e=.returned (Jn 0)/\∃a b fs its,fV w' R B st.1 st.2 a b fs its)
theorem Lr{d:D}{b:Nat}:¬mK d=some (.iface 136 (Pt b)):=by
 unfold mK;split<;>simp
theorem Ff(t:au)(h1:¬bI t=1)(h2:¬bI t=2)(h3:¬bI t=3)(g:¬bI t=7):bI t=0\/bI t=lF t:=by
 by_cases a:(t.headD 0).toNat=40
 .exact absurd (by unfold bI;rw[fN a]) h1
 by_cases b:(t.headD 0).toNat=41
 .exact absurd (by unfold bI;rw[fb a,fN b]) h2
 by_cases c:(t.headD 0).toNat=39
 .exact absurd (by unfold bI;rw[fb a,fb b,fN c]) h3
 by_cases d:(t.headD 0).toNat=32\/(t.headD 0).toNat=10\/(t.headD 0).toNat=59
 .exact absurd (by unfold bI;rw[fb a,fb b,fb c,fN d]) g
 unfold bI;rw[fb a,fb b,fb c,fb d];by_cases e:cY (t.headD 0)=0
 .rw[fN e];exact RP rfl
 .rw[fb e];exact RA rfl
theorem Ki(w:aa)(R B:Nat)(aH:List D)(opens:List (Bool×List D))(fv ov:al)(fs:a7)(its:List (al×a7))(s:ao)(p:Int)(h:fV w R B aH opens fv ov fs its)(hB:B<=w.heap.size)(H:opens.length<=20)(I:hZ aH opens<=1000)(hs:s.size<=1000)(h7:¬bI s.data.toList=7):
  cl 54 #[Pt R,.agg #[Jn (bI s.data.toList),Jn p,.string s]] w (GP w R B (bJ aH opens s.data.toList)):=by
 have Q:∀k,Below w.heap.size w (w.alloc (.cells #[Jn k,Jn p,.string s] 128)):=λk=>aR _ _;have G:=ag (λk=>h.below (Q k));have j:=ag Q;have h6:∀k,B<=(w.alloc (.cells #[Jn k,Jn p,.string s] 128)).heap.size:=λk=>by simp;omega
 have L:=ag h6;clear h Q h6;by_cases m:bI s.data.toList=1
 .have y:Hid (bJ aH opens s.data.toList=if 20<=opens.length then .inl 3 else .inr (aH,(false,[])::opens)):=by
   show _=_;unfold bJ;rw[m];rfl
  rw[m]
  generalize bJ aH opens s.data.toList=r at *
  clear m h7;go_enter func54,ntmps54;go_wp2_with fail;refine(ud _ R B aH opens fv ov fs its false (G.out 1) (L.out 1) H).mono ?_;rintro e w1 ⟨h1,h2⟩;by_cases Z:20<=opens.length
  .obtain⟨rfl,rfl⟩:=h1 Z;have c:Hid (r=.inl 3):=by show _=_;rw[y.out,fN Z]
   clear h1 h2;go_wp2;go_ret;exact⟨dj.aj (j.out 1),(λer h=>by rw[c.out] at h;cases h;rfl),(λst h=>by rw[c.out] at h;cases h)⟩
  .obtain⟨rfl,v,its',g,i⟩:=h2 (by omega);have c:Hid (r=.inr (aH,(false,[])::opens)):=by show _=_;rw[y.out,fb Z]
   have HOK':=ag g;have HUP':=ag i;clear h1 h2 g i;go_wp2;go_ret;exact⟨(dj.aj (j.out 1)).trans HUP'.out,(λer h=>by rw[c.out] at h;cases h),(λst h=>by rw[c.out] at h;cases h;exact⟨rfl,fv,v,fs,its',HOK'.out⟩)⟩
 by_cases n:bI s.data.toList=3
 .have y:Hid (bJ aH opens s.data.toList=if 20<=opens.length then .inl 3 else .inr (aH,(true,[])::opens)):=by
   show _=_;unfold bJ;rw[n];rfl
  rw[n]
  generalize bJ aH opens s.data.toList=r at *
  clear n h7;go_enter func54,ntmps54;go_wp2_with fail;refine(ud _ R B aH opens fv ov fs its true (G.out 3) (L.out 3) H).mono ?_;rintro e w1 ⟨h1,h2⟩;by_cases Z:20<=opens.length
  .obtain⟨rfl,rfl⟩:=h1 Z;have c:Hid (r=.inl 3):=by show _=_;rw[y.out,fN Z]
   clear h1 h2;go_wp2;go_ret;exact⟨dj.aj (j.out 3),(λer h=>by rw[c.out] at h;cases h;rfl),(λst h=>by rw[c.out] at h;cases h)⟩
  .obtain⟨rfl,v,its',g,i⟩:=h2 (by omega);have c:Hid (r=.inr (aH,(true,[])::opens)):=by show _=_;rw[y.out,fb Z]
   have HOK':=ag g;have HUP':=ag i;clear h1 h2 g i;go_wp2;go_ret;exact⟨(dj.aj (j.out 3)).trans HUP'.out,(λer h=>by rw[c.out] at h;cases h),(λst h=>by rw[c.out] at h;cases h;exact⟨rfl,fv,v,fs,its',HOK'.out⟩)⟩
 by_cases q:bI s.data.toList=2
 .have y:Hid (bJ aH opens s.data.toList=nV aH opens):=by
   show _=_;unfold bJ;rw[q];rfl
  rw[q]
  generalize bJ aH opens s.data.toList=r at *
  clear q h7 m n;go_enter func54,ntmps54;go_wp2_with fail;refine(ED _ R B aH opens fv ov fs its (G.out 2) (L.out 2) H I).mono ?_;rintro e w1 ⟨h1,h2⟩
  match opens with
  |[]=>
   obtain⟨rfl,hb⟩:=h1 (RP rfl);have c:Hid (r=.inl 2):=y.out;have M:=ag hb;clear h1 h2 hb;go_wp2;go_ret;exact⟨(dj.aj (j.out 2)).trans (dj.aj M.out),(λer h=>by rw[c.out] at h;cases h;rfl),(λst h=>by rw[c.out] at h;cases h)⟩
  |(true,ds)::os=>
   obtain⟨rfl,hb⟩:=h1 (RA ⟨_,_,rfl⟩);have c:Hid (r=.inl 2):=y.out;have M:=ag hb;clear h1 h2 hb;go_wp2;go_ret;exact⟨(dj.aj (j.out 2)).trans (dj.aj M.out),(λer h=>by rw[c.out] at h;cases h;rfl),(λst h=>by rw[c.out] at h;cases h)⟩
  |(false,ds)::os=>
   obtain⟨rfl,P,v,O,its',g,i⟩:=h2 ds os rfl;have c:Hid (r=.inr (gQ aH os (ju ds))):=y.out;have HOK':=ag g;have HUP':=ag i;clear h1 h2 g i;go_wp2;go_ret;exact⟨(dj.aj (j.out 2)).trans HUP'.out,(λer h=>by rw[c.out] at h;cases h),(λst h=>by rw[c.out] at h;cases h;exact⟨rfl,P,v,O,its',HOK'.out⟩)⟩
 have Y:=Ff s.data.toList m q n h7;have y:Hid (bJ aH opens s.data.toList=match ig s.data.toList with|some d=>if bI s.data.toList=0 then .inl 2 else .inr (gQ aH opens d)|none=>.inl 2):=by
  show _=_;unfold bJ;rw[fb m,fb n,fb q]
 generalize hr:bJ aH opens s.data.toList=r at *
 by_cases o:bI s.data.toList=0
 .have c:Hid (r=.inl 2):=by
   show _=_;rw[y.out];cases ig s.data.toList with
   |none=>rfl
   |some d=>simp only[o,Ty]
  rw[o];clear o m q n h7 Y hr;go_enter func54,ntmps54;go_wp2;go_ret;exact⟨dj.aj (j.out 0),(λer h=>by rw[c.out] at h;cases h;rfl),(λst h=>by rw[c.out] at h;cases h)⟩
 .have t:bI s.data.toList=lF s.data.toList:=by rcases Y with h|h;exact absurd h o;exact h
  cases htd:ig s.data.toList with
  |none=>
   rcases j5 s.data.toList with⟨h1,h2⟩|⟨h1,b,h2,h3⟩|⟨h1,h2,h3,h4⟩|⟨h1,h2⟩
   .exact absurd (t.trans h1) o
   .rw[h3] at htd;cases htd
   .rw[h4] at htd;cases htd
   .rw[h2] at htd;cases htd
  |some d=>
   have c:Hid (r=.inr (gQ aH opens d)):=by show _=_;rw[y.out,htd];simp only[o,SI]
   have N:=ag (λw'=>sO s p hs d htd w');obtain⟨k,J⟩:∃k,k=bI s.data.toList:=⟨_,rfl⟩;rw[t] at J;have b1:(k==1)=false:=by rw[j2,J,<-t];exact m
   have b2:(k==2)=false:=by rw[j2,J,<-t];exact q
   have b3:(k==3)=false:=by rw[j2,J,<-t];exact n
   have b0:(k==0)=false:=by rw[j2,J,<-t];exact o
   rw[t,<-J];have N:Hid (∀w',cl 87 #[.agg #[Jn k,Jn p,.string s]] w' λe hf=>∃u,e=.returned u/\mK d=some u/\Below w'.heap.size w' hf):=by rw[J];exact N.out
   clear o m q n h7 Y t J htd hr y;go_enter func54,ntmps54;go_wp2_with fail;refine(N.out _).mono ?_;rintro e w1 ⟨u,rfl,E,U⟩;have V:Below w.heap.size w w1:=(j.out k).trans (U.mono (by simp));have X:IV w1 (21-opens.length) u d:=by
    rw[show 21-opens.length=(20-opens.length)+1 from by omega];cases d with
    |agg l=>cases E
    |slice l a=>cases E
    |_=>exact E
   have F:=(G.out k).below U;have hc:=ag (F.sp.join (eN.one (sV.atom _ _ u (ew _) (λb e=>by subst e;exact Lr E))));obtain⟨t1,x1,rfl⟩:=IV.form _ _ _ X;have ha:=ag X;have h0:=ag F;have h9:=ag V;have he:B<=w1.heap.size:=by have:=V.size;omega
   clear X F V U E;go_wp2_with fail;refine(Dp w1 R B aH opens fv ov fs its d (.iface t1 x1) h0.out he H I ha.out hc.out _ rfl).mono ?_;rintro e w2 ⟨rfl,P,v,O,its',K,h8⟩;have h5:=ag K;have hd:=ag h8;clear K h8;go_wp2;go_ret;exact⟨(dj.aj h9.out).trans hd.out,(λer h=>by rw[c.out] at h;cases h),(λst h=>by rw[c.out] at h;cases h;exact⟨rfl,P,v,O,its',h5.out⟩)⟩
open Go.RowKit Go.Shelf
attribute [local go_sem] Oper.semAt_some
abbrev Pc:={x:ao×Nat//x.1.size<=1000/\¬bI x.1.data.toList=7}
def Ii(x:Pc):bc:= #[.agg #[.int .i64 (bI x.1.1.data.toList),.int .i64 x.1.2,.string x.1.1]]
theorem LL(x:Pc)(kd:Int)(h:bI x.1.1.data.toList=kd):Ii x= #[.agg #[Jn kd,Jn x.1.2,.string x.1.1]]:=by unfold Ii;rw[h]
def bP(s:ao)(i:Nat):ao:=s.extract i (i+em (s.data.toList.drop i))
theorem wZ(s:ao)(b:s.size<=1000)(i:Nat):(bP s i).size<=1000:=by
 unfold bP;simp;omega
def gC(s:ao)(a:s.size<=1000):Nat->Nat->List Pc
 |0,_=>[]
 |n+1,i=>if i<s.size then(if h:bI (bP s i).data.toList=7 then gC s a n (i+em (s.data.toList.drop i)) else⟨(bP s i,i),wZ s a i,h⟩::gC s a n (i+em (s.data.toList.drop i))) else []
theorem Ho:∀l:au,yx l<=l.length
 |[]=>by simp[yx]
 |c::r=>by have:=Ho r;simp only[yx,j1];split<;>omega
theorem Ml(c:bp)(r:au):0<em (c::r)/\em (c::r)<=(c::r).length:=by
 unfold em;simp only[List.headD_cons];by_cases h1:(cY c !=0)=true
 .have h2:=xF (c::r);simp only[h1,Ty];refine⟨?_,h2⟩;simp only[oS];rw[fb (by simpa using h1)];omega
 .simp only[h1];by_cases h2:c.toNat=59
  .have h3:=Ho (c::r);simp only[h2,Ty];refine⟨?_,h3⟩;unfold yx;rw[fb (show ¬c.toNat=10 from by omega)];exact Nat.succ_pos _
  .simp[h2]
theorem jt(s:ao)(k:Nat)(h:k<s.size):0<em (s.data.toList.drop k)/\k+em (s.data.toList.drop k)<=s.size:=by
 have:=Ml s[k] (s.data.toList.drop (k+1));rw[<-dt s k h] at this;simp at this;omega
theorem LV(s:ao)(k:Nat):(s.extract k s.size).data.toList=s.data.toList.drop k:=by
 rw[SF,s9 (by simp)]
def vF(T:Nat)(W a:aa):Prop:=a.heap[T]? =W.heap[T]?/\a.heap[3]? =W.heap[3]?/\W.heap.size<=a.heap.size
theorem vF.refl(T:Nat)(W:aa):vF T W W:=⟨rfl,rfl,ew _⟩
theorem vF.trans{B:aa}(h:vF T A B)(k:vF T B C):vF T A C:=⟨k.1.trans h.1,k.2.1.trans h.2.1,ku h.2.2 k.2.2⟩
theorem vF.alloc{B:aa}(h:vF T A B)(b:T<B.heap.size)(h2:3<B.heap.size)(o:Obj):vF T A (B.alloc o).drew:=
 ⟨(tm B o T b).trans h.1,(tm B o 3 h2).trans h.2.1,ku h.2.2 (by simp[World.drew])⟩
theorem vF.cell{B:aa}(h:vF T A B):B.cell? (dq T 0)=A.cell? (dq T 0):=xo (w:=A) h.1
theorem vF.max{B:aa}(h:vF T A B)(hm:MaxOk A):MaxOk B:=by
 obtain⟨m,hm⟩:=hm;exact⟨m,by rw[xo (w:=A) (a:=⟨3,0,none⟩) h.2.1];exact hm⟩
theorem CA(n:Nat)(hn:1<=n)(l T:Nat)(s:ao)(w:s.size<=1000)(J Jx:List Pc->aa->Prop)(W:aa)(h8:AbidesFrom W.heap.size J)(hY:∀pre x W1,J pre W1->pre.length<s.size+1->YieldAt Fence.wide (n-1) prog l (Ii x) W1 λe Q=>
   (e=.returned (.bool true)/\J (pre++[x]) Q/\vF T W1 Q)\/(e=.returned (.bool false)/\Jx (pre++[x]) Q))(h9:T<W.heap.size)(hc:Cl W T 0 (.string s))(hm:MaxOk W)(h0:J [] W):
  CallsIn Fence.wide n prog 81 #[.func (.yield l) #[] #[],Pt T] W λe Q=>(∃v,e=.returned v)/\
   ((∃xs,xs=gC s w (s.size+1) 0/\J xs Q)\/(∃pre,(∃rest,pre++rest=gC s w (s.size+1) 0)/\Jx pre Q)):=by
 refine callsIn_of_wp func81 rfl trivial ?_ rfl;simp only[ntmps81,List.size_toArray,j1,R0,Nat.reduceAdd,Nat.reduceSub,Array.replicate_succ,Array.replicate_zero,List.push_toArray,List.append_toArray,Sg,s6]
 gi_wp2
 gi_loopw [3] (λi wr=>∃k:Nat,k<=s.size/\i=Jn k/\∃pre m,pre++gC s w m k=gC s w (s.size+1) 0/\s.size-k<m/\pre.length<=k/\J pre wr/\vF T W wr)
  (λi _=>s.size-(intOf i).toNat)
 case atStart=>exact⟨0,kc _,rfl,[],s.size+1,rfl,by omega,ew _,h0,vF.refl _ _⟩
 case round=>
  obtain⟨k,hk,rfl,pre,m,g,hl,ho,E,G⟩:=hrel;have ha:Cl wr T 0 (.string s):=G.cell.trans hc;by_cases hlt:k<s.size
  .have hi:(k:Int)<=(s.size:Int):=by omega
   have HY:=ag hY;have HN:=ag G;have HJ:=ag E;clear hY G E;have hf:(s.extract k s.size).size=s.size-k:=by simp
   have Z:=jt s k hlt;obtain⟨c,q⟩:∃c,em (s.data.toList.drop k)=c:=⟨_,rfl⟩;have U:Hid (∀w',cl 82 #[.string (s.extract k s.size)] w' λe d=>e=.returned (Jn c)/\d=w'):=by
    intro w';have:=Cf (s.extract k s.size) (by omega) (by unfold maxLen;omega) w';rw[LV,q] at this;exact this
   rw[q] at Z;clear hf;have V:=ag q;obtain⟨hg,hh⟩:=Z;obtain⟨b,H⟩:∃b,s.extract k (k+c)=b:=⟨_,rfl⟩;have M:Hid (bP s k=b):=by show _=_;unfold bP;rw[q];exact H
   have he:s.extract k ((k:Int)+(c:Int)).toNat=b:=by rw[<-H,show((k:Int)+(c:Int)).toNat=k+c from by omega]
   have hd:b.size=c:=by rw[<-H];simp;omega
   have h1:MaxOk wr:=HN.out.max hm;obtain⟨kd,P⟩:∃kd,bI b.data.toList=kd:=⟨_,rfl⟩;have L:Hid (∀d,MaxOk d->cl 83 #[.string b] d λe w3=>e=.returned (Jn kd)/\w3=d):=by
    intro d hq;have:=B7 b (by omega) (by omega) d hq;rw[P] at this;exact this
   have y:=ag P;have D:=ag h1;have t:b.size<=1000:=by omega
   clear hd h1 P H q;have i1:(0:Int)<=(k:Int):=by omega
   have i2:(k:Int)<=(k:Int)+(c:Int):=by omega
   have i3:(k:Int)+(c:Int)<=(s.size:Int):=by omega
   gi_wp2_with (refine⟨trivial,?_⟩;gi_at_call 82;refine(S4.2 (U.out _)).mono ?_;rintro e w' ⟨rfl,rfl⟩)
   have nne:=World.new_ne w' ⟨T,0,none⟩ ha;refine wpIn_wide.2 ?_;go_region_held3 (λwx=>wx.cell? ⟨T,0,none⟩=some (.string s)) (go_keep) (first|(go_at_call 83;refine(L.out _ (by first|exact D.out|exact MaxOk.upd D.out (aB.drew ((TU (λ_=>False) _).alloc _)) (λh=>h)|exact MaxOk.upd D.out (aB.drew (TU (λ_=>False) _)) (λh=>h))).mono ?_;rintro e wy ⟨rfl,rfl⟩))
   all_goals clear he
   all_goals
    have F:J pre ((w'.alloc (.cells #[Jn kd,Jn k,.string b] 128)).drew):=h8 pre w' _ none HJ.out ⟨rfl,rfl,rfl,by simp[World.drew],λj hj _=>tm w' _ j hj⟩ (λr e=>by cases e);have d7:vF T W ((w'.alloc (.cells #[Jn kd,Jn k,.string b] 128)).drew):=HN.out.alloc (gr h9 HN.out.2.2) D.out.lt _;have q0:((w'.alloc (.cells #[Jn kd,Jn k,.string b] 128)).drew).heap[w'.heap.size]? =some (.cells #[Jn kd,Jn k,.string b] 128):=fK w' _;obtain⟨p,rfl⟩:∃p,m=p+1:=⟨m-1,by omega⟩;by_cases N:kd=7
    .have b7:(kd !=7)=false:=by rw[N];rfl
     have o:Hid (gC s w (p+1) k=gC s w p (k+c)):=by
      show _=_;rw[gC,fN hlt,S3 (by rw[M.out,y.out];exact N),V.out]
     have h3:=ag F;have K:=ag d7;clear N F d7 q0
     gi_wp2
     refine⟨λ_ h=>(by cases h),?_⟩
     gi_wp2
     go_roundw
     case rel=>exact⟨k+c,by omega,by go_num,pre,p,by rw[<-o.out];exact g,by omega,by omega,h3.out,K.out⟩
     case measure=>simp[intOf];omega
    .have b7:(kd !=7)=true:=by rw[SC];exact N
     have O:¬bI b.data.toList=7:=by rw[y.out];exact N
     have o:Hid (gC s w (p+1) k=⟨(b,k),t,O⟩::gC s w p (k+c)):=by
      show _=_;rw[gC,fN hlt,Tk (by rw[M.out,y.out];exact N),V.out]
      congr 1
      exact Subtype.ext (by show(bP s k,k)=(b,k);rw[M.out])
     obtain⟨fn,tmps,assign,body,hy,hR⟩:=HY.out pre ⟨(b,k),t,O⟩ _ F (by omega);rw[LL _ kd y.out] at hy
     dsimp only at hy
     have h6:=ag hR;have K:=ag d7;clear F d7 N hR q0
     gi_wp2
     refine h6.out.mono ?_;rintro e W3 (⟨rfl,X,Y⟩|⟨rfl,I⟩)
     .have h2:=ag X;have h5:=ag (K.out.trans Y);clear X Y hy
      gi_wp2
      go_roundw
      case rel=>exact⟨k+c,by omega,by go_num,pre++[⟨(b,k),t,O⟩],p,by rw[RH,List.singleton_append,<-o.out];exact g,by omega,by simp;omega,h2.out,h5.out⟩
      case measure=>simp[intOf];omega
     .have h4:=ag I;clear I hy
      gi_wp2
      refine TT ?_;exact⟨⟨_,rfl⟩,.inr ⟨_,⟨gC s w p (k+c),by rw[RH,List.singleton_append,<-o.out];exact g⟩,h4.out⟩⟩
  .have hb:k=s.size:=by omega
   subst hb;obtain⟨p,rfl⟩:∃p,m=p+1:=⟨m-1,by omega⟩;have o:Hid (gC s w (p+1) s.size=[]):=by show _=_;rw[gC,fb hlt]
   have HJ:=ag E;clear hY G E
   gi_wp2
   go_end0
   exact⟨⟨_,rfl⟩,.inl ⟨pre,by have:=g;rw[o.out,Sr] at this;exact this,HJ.out⟩⟩
attribute [local go_sem] Oper.semAt_some
def gK:List Pc->(List D×List (Bool×List D))->Sum (Int×Nat) (List D×List (Bool×List D))
 |[],st=>.inr st
 |x::r,st=>match bJ st.1 st.2 x.1.1.data.toList with
  |.inl e=>.inl (e,x.1.2)
  |.inr a=>gK r a
theorem lP:∀(pre:List Pc) (x:Pc) (st0 st:List D×List (Bool×List D)),gK pre st0=.inr st->gK (pre++[x]) st0=match bJ st.1 st.2 x.1.1.data.toList with|.inl e=>.inl (e,x.1.2)|.inr b=>.inr b
 |[],x,st0,st,h=>by cases h;rfl
 |y::r,x,st0,st,h=>by
  simp only[s6,gK] at *;cases ht:bJ st0.1 st0.2 y.1.1.data.toList with
  |inl e=>rw[ht] at h;cases h
  |inr b=>rw[ht] at h;exact lP r x b st h
theorem uo:∀(pre rest:List Pc) (st0:List D×List (Bool×List D)) (e:Int×Nat),gK pre st0=.inl e->gK (pre++rest) st0=.inl e
 |[],rest,st0,e,h=>by cases h
 |y::r,rest,st0,e,h=>by
  simp only[s6,gK] at *;cases ht:bJ st0.1 st0.2 y.1.1.data.toList with
  |inl e=>rw[ht] at h;exact h
  |inr b=>rw[ht] at h;exact uo r rest b e h
def fY(s:ao):xX (List D):=
 if a:s.size<=1000 then
  match gK (gC s a (s.size+1) 0) ([],[]) with
  |.inl e=>.inl e
  |.inr st=>if st.2.isEmpty then .inr st.1 else .inl (2,s.size)
 else .inl (1,1000)
def qA(w:aa)(r:xX (List D))(e:bo)(w':aa):Prop:=
 Below w.heap.size w w'/\(∀er p,r=.inl (er,p)->e=.returned (.tuple #[.slice none 0 0,Jn er,Jn (p:Nat)]))/\
  (∀f,r=.inr f->∃v vs,e=.returned (.tuple #[v,Jn 0,Jn 0])/\bT w.heap.size w' v vs/\cH w' 21 vs f/\qh w' w.heap.size vs w'.heap.size)
theorem CD(s:ao)(w:aa):
  cl 53 #[.string s] w λe w'=>e=.returned (.func (.func 81) #[] #[Pt w.heap.size])/\w'=w.alloc (.cells #[.string s] 9):=by
 have d:∀(c:Fn) (first b:bc) (w:aa),(Instr.makeFunc c first b).run prog w=.ok (.func c first b) w:=λ_ _ _ _=>rfl;go_enter func53,ntmps53;go_wp2;go_ret;exact⟨rfl,rfl⟩
theorem EJ(s:ao)(b:1000<s.size)(hm:s.size<=maxLen)(w:aa):cl 39 #[.string s] w (qA w (.inl (1,1000))):=by
 unfold maxLen at hm;have c:(1000:Int)<(s.size:Int):=by omega
 go_enter func39,ntmps39;go_wp2;refine ff (v:=.tuple #[.slice none 0 0,Jn 1,Jn 1000]) (by simp[results,results39,go_sem]) rfl ?_;exact⟨(((fL _ w).alloc (ew _) _).alloc (by simp) _).alloc (by simp;omega) _,(λer p h=>by cases h;rfl),(λf h=>by cases h)⟩
structure nP(W:aa)(b:Nat)(v1 a c:al):Prop where
 h1:W.heap[b]? =some (Obj.cells #[v1] 76 (0,0))
 h2:W.heap[b+1]? =some (Obj.cells #[a] 48 (0,0))
 h3:W.heap[b+1+1]? =some (Obj.cells #[c] 3 (0,0))
theorem fV.own{w:aa}{aH:List D}(h:fV w R B aH opens fv ov fs its)(g:aB S w w')(hS:∀k,S k->∃o,w.heap[k]? =some o/\o.isCells=false):fV w' R B aH opens fv ov fs its:=by
 have i:∀k c e f,w.heap[k]? =some (Obj.cells c e f)->¬S k:=λk c e f b j=>by obtain⟨o,ho,p⟩:=hS k j;rw[b] at ho;cases ho;cases p
 have b:aC 205 w w':=T1 g (λk c j s=>i k _ _ _ s j);have d:∀{e n z:Nat} {v:al} {xs:a7},w.ownsRow B e z v n xs->∀k,v.ownBlock=some k->¬S k:=by
  intro e n z v xs t k b;rcases t.2 with⟨l,_⟩|⟨F,m,E,l,hb,q,r⟩
  .rw[l] at b;cases b
  .rw[l] at b;cases b;exact i _ _ _ _ q
 exact⟨g.at h.hR (i _ _ _ _ h.hR),h.hlt,aq h.hf g (d h.hf),cH.ak b _ _ _ h.hfi,aq h.ho g (d h.ho),h.hits.ak g b (λx y k b=>d (h.hits.rows x y) k b),h.ap,h.sp.ak (lG.ak b) g.size⟩
theorem nP.upd{w:aa}{b:Nat}(h:nP w b v1 v2 v3)(i:aB S w w')(hS:∀k,S k->(∀c e f,¬w.heap[k]? =some (Obj.cells c e f))\/b+1+1<k):nP w' b v1 v2 v3:=
 ⟨i.at h.h1 (λg=>(hS _ g).elim (λd=>d _ _ _ h.h1) (λj=>by omega)),i.at h.h2 (λg=>(hS _ g).elim (λd=>d _ _ _ h.h2) (λj=>by omega)),i.at h.h3 (λg=>(hS _ g).elim (λd=>d _ _ _ h.h3) (λj=>by omega))⟩
theorem lw{w:aa}(h:∃o,w.heap[k]? =some o/\o.isCells=false):∀c e f,¬w.heap[k]? =some (Obj.cells c e f):=λc e f d=>by obtain⟨o,ho,b⟩:=h;rw[d] at ho;cases ho;cases b
structure A3(w a:aa)(pre:List Pc)(W:aa):Prop where
 rd:∃st,gK pre ([],[])=.inr st/\st.2.length<=20/\hZ st.1 st.2<=pre.length/\∃b c fs its,fV W (w.heap.size+1+1+1) a.heap.size st.1 st.2 b c fs its
 res:nP W w.heap.size (.slice none 0 0) (.int .i64 0) (.int .i64 0)
 low:Below w.heap.size w W
 size:a.heap.size<=W.heap.size
def KQ(w:aa)(c:Code)(pre:List Pc)(W:aa):Prop:=
 c=.ret/\∃er p,gK pre ([],[])=.inl (er,p)/\nP W w.heap.size (.slice none 0 0) (Jn er) (Jn (p:Nat))/\Below w.heap.size w W
theorem fk{w:aa}{row:Option Nat}(b:w.grownBy w' row):aB (λk=>row=some k) w w':=⟨b.os,b.tape,b.output,b.size,λk c d=>b.block k c (λe=>d e.symm)⟩
theorem A3.own(w c:aa)(i:w.heap.size<=c.heap.size):OwnFrom c.heap.size (A3 w c):=λpre A l row h g d=>by
 have e:=fk g;obtain⟨st,h1,h2,h3,fv,ov,fs,its,j⟩:=h.rd;refine⟨⟨st,h1,h2,h3,fv,ov,fs,its,j.own e (λk b=>(d k b).2)⟩,h.res.upd e (λk b=>RP (lw (d k b).2)),h.low.trans (e.below h.low.size (λk b=>ku i (d k b).1)),ku h.size g.size⟩
theorem KQ.own(w d:aa)(j:w.heap.size<=d.heap.size)(c:Code):OwnFrom d.heap.size (KQ w c):=λpre A m row h l g=>by
 have i:=fk l;obtain⟨h1,er,p,h2,h3,e⟩:=h;exact⟨h1,er,p,h2,h3.upd i (λk b=>RP (lw (g k b).2)),e.trans (i.below e.size (λk b=>ku j (g k b).1))⟩
theorem F8(aH:List D)(opens:List (Bool×List D))(t:au)(er:Int)(h:bJ aH opens t=.inl er):¬er=0:=by
 unfold bJ at h;split at h
 .split at h
  .cases h;omega
  .cases h
 split at h
 .split at h
  .cases h;omega
  .cases h
 split at h
 .unfold nV at h;split at h
  .cases h
  .cases h;omega
 split at h
 .split at h
  .cases h;omega
  .cases h
 .cases h;omega
theorem qI(aH:List D):∀(opens:List (Bool×List D)) (d:D),(gQ aH opens d).2.length<=opens.length
 |[],d=>by simp[gQ]
 |(true,ds)::os,d=>by
  have:=qI aH os (ju [sym sr,d]);simp only[gQ,j1];omega
 |(false,ds)::os,d=>by simp[gQ]
theorem Kg(aH:List D)(opens:List (Bool×List D))(t:au)(b:opens.length<=20)(st:List D×List (Bool×List D))(h:bJ aH opens t=.inr st):st.2.length<=20/\hZ st.1 st.2<=hZ aH opens+1:=by
 unfold bJ at h;split at h
 .split at h
  .cases h
  .cases h;exact⟨by simp;omega,by simp[hZ];omega⟩
 split at h
 .split at h
  .cases h
  .cases h;exact⟨by simp;omega,by simp[hZ];omega⟩
 split at h
 .unfold nV at h;split at h
  .rename_i ds os
   cases h;have h1:=qI aH os (ju ds);have h2:=qH aH os (ju ds);simp only[j1] at b;refine⟨by omega,?_⟩;simp only[hZ,v6,Ss] at *;omega
  .cases h
 split at h
 .rename_i d _
  split at h
  .cases h
  .cases h;have h1:=qI aH opens d;have h2:=qH aH opens d;exact⟨by omega,h2⟩
 .cases h
theorem bQ{w:aa}{v:al}{x:Obj}(h:w.heap[k]? =some x)(b:k≠a.block):(w.setCell a v).heap[k]? =some x:=by rw[R6 _ _ _ _ b];exact h
theorem D5{w:aa}(e:Below w.heap.size w W)(g:dj R B W W1)(c:nP W1 w.heap.size u1 u2 u3)(hR:w.heap.size<=R/\w.heap.size<=B)(v1 v2 v3:al):
  KeepsOthers W (((W1.setCell (dq w.heap.size 0) v1).setCell (dq (w.heap.size+1) 0) v2).setCell (dq (w.heap.size+1+1) 0) v3).drew/\nP (((W1.setCell (dq w.heap.size 0) v1).setCell (dq (w.heap.size+1) 0) v2).setCell (dq (w.heap.size+1+1) 0) v3).drew w.heap.size v1 v2 v3/\
   Below w.heap.size w (((W1.setCell (dq w.heap.size 0) v1).setCell (dq (w.heap.size+1) 0) v2).setCell (dq (w.heap.size+1+1) 0) v3).drew:=by
 have b:Below w.heap.size w W1:=e.trans (g.upd.below e.size (λk d=>by rcases d with rfl|d<;>omega));refine⟨g.keeps.trans ((((Tg _ _ _).trans (Tg _ _ _)).trans (Tg _ _ _)).trans (KeepsOthers.drew _)),⟨?_,?_,?_⟩,(((b.setCell (p:=(dq w.heap.size 0)) (ew _) _).setCell (p:=(dq (w.heap.size+1) 0)) (by simp) _).setCell (p:=(dq (w.heap.size+1+1) 0)) (by simp;omega) _).drew⟩
 .exact bQ (a:=(dq (w.heap.size+1+1) 0)) (bQ (a:=(dq (w.heap.size+1) 0)) (TH c.h1) (by simp)) (by simp;omega)
 .exact bQ (a:=(dq (w.heap.size+1+1) 0)) (TH (bQ (a:=(dq w.heap.size 0)) c.h2 (by simp))) (by simp)
 .exact TH (bQ (a:=(dq (w.heap.size+1) 0)) (bQ (a:=(dq w.heap.size 0)) c.h3 (by simp;omega)) (by simp))
def BX(w:aa)(s:ao)(x:Pc)(a:Nat):Act:=
 {tmps:= #[.string s,undef,.pointer (some ⟨w.heap.size,0,none⟩),.pointer (some ⟨w.heap.size+1,0,none⟩),.pointer (some ⟨w.heap.size+1+1,0,none⟩),.pointer (some ⟨w.heap.size+1+1+1,0,none⟩),.pointer (some ⟨a,0,none⟩),undef,.string s,.int .i64 s.size,.bool false,.string s,
   .func (.func 81) #[] #[.pointer (some ⟨w.heap.size+1+1+1+1,0,none⟩)],.agg #[.int .i64 (bI x.1.1.data.toList),.int .i64 x.1.2,.string x.1.1],undef,undef,undef,undef,undef,undef,undef,undef,undef,undef,undef,undef,undef,undef,undef],defers:=[]}
theorem Ak{w:aa}(d:Below w.heap.size w W)(e:nP W w.heap.size u1 u2 u3)(v1 v2 v3:al):
  KeepsOthers W (((W.setCell (dq w.heap.size 0) v1).setCell (dq (w.heap.size+1) 0) v2).setCell (dq (w.heap.size+1+1) 0) v3)/\nP (((W.setCell (dq w.heap.size 0) v1).setCell (dq (w.heap.size+1) 0) v2).setCell (dq (w.heap.size+1+1) 0) v3) w.heap.size v1 v2 v3/\
   Below w.heap.size w (((W.setCell (dq w.heap.size 0) v1).setCell (dq (w.heap.size+1) 0) v2).setCell (dq (w.heap.size+1+1) 0) v3):=by
 obtain⟨a,b,c⟩:=D5 d (dj.refl w.heap.size w.heap.size W) e ⟨ew _,ew _⟩ v1 v2 v3;exact⟨⟨a.size,a.same⟩,⟨b.h1,b.h2,b.h3⟩,⟨c.os,c.tape,c.output,c.size,c.block⟩⟩
theorem Hu{w:aa}{d:Nat}(h:nP W w.heap.size u1 u2 u3)(hf:bT B W fv fs)(hi:cH W 21 fs f)(i:qh W B fs W.heap.size)(hB:w.heap.size+1+1<B)(n:W.heap[d]? =some (.deferred (some [])))(v1 v2 v3:al):
  bT w.heap.size ((((W.setCell (dq w.heap.size 0) v1).setCell (dq (w.heap.size+1) 0) v2).setCell (dq (w.heap.size+1+1) 0) v3).putObj d (.deferred none)) fv fs/\
   cH ((((W.setCell (dq w.heap.size 0) v1).setCell (dq (w.heap.size+1) 0) v2).setCell (dq (w.heap.size+1+1) 0) v3).putObj d (.deferred none)) 21 fs f/\qh ((((W.setCell (dq w.heap.size 0) v1).setCell (dq (w.heap.size+1) 0) v2).setCell (dq (w.heap.size+1+1) 0) v3).putObj d (.deferred none)) w.heap.size fs ((((W.setCell (dq w.heap.size 0) v1).setCell (dq (w.heap.size+1) 0) v2).setCell (dq (w.heap.size+1+1) 0) v3).putObj d (.deferred none)).heap.size:=by
 have l:aB (λk=>(w.heap.size<=k/\k<=w.heap.size+1+1)\/k=d) W ((((W.setCell (dq w.heap.size 0) v1).setCell (dq (w.heap.size+1) 0) v2).setCell (dq (w.heap.size+1+1) 0) v3).putObj d (.deferred none)):=by
  refine aB.trans ((((TU _ W).setCell (dq w.heap.size 0) v1 (λ_=>RP ⟨ew _,by simp;omega⟩)).setCell (dq (w.heap.size+1) 0) v2 (λ_=>RP ⟨by simp,by simp⟩)).setCell (dq (w.heap.size+1+1) 0) v3 (λ_=>RP ⟨by simp;omega,ew _⟩)) (fk (SB _ d (.deferred none))) (λj _ q=>RA (by cases q;rfl))
 have g:aC 205 W _:=T1 l (by
  intro k c g e;rcases g with⟨h1,h2⟩|rfl
  .have:k=w.heap.size\/k=w.heap.size+1\/k=w.heap.size+1+1:=by omega
   rcases this with rfl|rfl|rfl
   .rw[h.h1] at e;simp at e
   .rw[h.h2] at e;simp at e
   .rw[h.h3] at e;simp at e
  .rw[n] at e;cases e)
 refine⟨ba (aq hf l (λk b s=> ?_)) (by omega),cH.ak g _ _ _ hi,(i.ak (lG.ak g) l.size).lo (by omega)⟩;rcases s with⟨h1,h2⟩|rfl
 .have:=(ar hf b).1;omega
 .rcases hf.2 with⟨m,_⟩|⟨v,p,t,m,hb,o,r⟩
  .rw[m] at b;cases b
  .rw[m] at b;cases b;rw[n] at o;cases o
theorem lY{R:bo->aa->Prop}{a:Act}{b D:Nat}(i:W.heap[D]? =some (.deferred (some [])))(q:nP W b v1 v2 v3)(h2:a.tmps.getD 2 undef=Pt b)(h3:a.tmps.getD 3 undef=Pt (b+1))(o:a.tmps.getD 4 undef=Pt (b+1+1))(j:a.defers=[{target:=.collected D,args:= #[]}])(hR:R (.returned (.tuple #[v1,v2,v3])) (W.putObj D (.deferred none))):bodyPostM Fence.wide 10 prog f39 R .ret a W:=by
 obtain⟨h,r⟩:=a;simp only at j;subst j;have c:nP (W.putObj D (.deferred none)) b v1 v2 v3:=q.upd (fk (SB W D (.deferred none))) (λk p=>RP (lw ⟨_,by cases p;exact i,rfl⟩));have l:=ae c.h1 0;have m:=ae c.h2 0;have n:=ae c.h3 0;simp at l m n;refine⟨by simp,.inl ⟨_,_,rfl,run_takeDeferred i,?_⟩⟩;refine⟨.tuple #[v1,v2,v3],?_,hR⟩;have d:h[2]?.getD undef=Pt b:=by simpa using h2
 have e:h[3]?.getD undef=Pt (b+1):=by simpa using h3
 have g:h[4]?.getD undef=Pt (b+1+1):=by simpa using o
 simp[results,f39,go_sem,l,m,n,d,e,g]
theorem BB(s:ao)(hs:s.size<=1000)(w:aa)(hm:MaxOk w):cl 39 #[.string s] w (qA w (fY s)):=by
 have i1:¬(1000:Int)<(s.size:Int):=by omega
 refine(S4 (n:=10)).1 ?_;refine callsIn_of_wp_marks func39 rfl trivial ?_ rfl;simp only[ntmps39,List.size_toArray,j1,R0,Nat.reduceAdd,Nat.reduceSub,Array.replicate_succ,Array.replicate_zero,List.push_toArray,List.append_toArray,Sg,s6]
 gi_wp2_with (refine⟨trivial,?_⟩;gi_at_call 53;refine(S4.2 (CD _ _)).mono ?_;rintro e w' ⟨rfl,rfl⟩)
 have hc:Below w.heap.size w (((((w.alloc (.cells #[.slice none 0 0] 76)).alloc (.cells #[Jn 0] 48)).alloc (.cells #[Jn 0] 3)).alloc (.cells #[.slice none 0 0,.slice none 0 0] 122)).alloc (.cells #[.string s] 9)):=
  (((((fL _ w).alloc (ew _) _).alloc (by simp) _).alloc (by simp;omega) _).alloc (by simp;omega) _).alloc (by simp;omega) _
 have hO:(((((w.alloc (.cells #[.slice none 0 0] 76)).alloc (.cells #[Jn 0] 48)).alloc (.cells #[Jn 0] 3)).alloc (.cells #[.slice none 0 0,.slice none 0 0] 122)).alloc (.cells #[.string s] 9)).heap.size=w.heap.size+5:=by simp
 have g1:=fK w (.cells #[.slice none 0 0] 76);have g2:=bR w (.cells #[.slice none 0 0] 76) (.cells #[Jn 0] 48);have g3:=bR (w.alloc (.cells #[.slice none 0 0] 76)) (.cells #[Jn 0] 48) (.cells #[Jn 0] 3);have g4:=bR ((w.alloc (.cells #[.slice none 0 0] 76)).alloc (.cells #[Jn 0] 48)) (.cells #[Jn 0] 3) (.cells #[.slice none 0 0,.slice none 0 0] 122);have g5:=bR (((w.alloc (.cells #[.slice none 0 0] 76)).alloc (.cells #[Jn 0] 48)).alloc (.cells #[Jn 0] 3)) (.cells #[.slice none 0 0,.slice none 0 0] 122) (.cells #[.string s] 9);simp only[World.size_alloc] at g3 g4 g5;have g1:=aw (o:=.cells #[.string s] 9) (aw (o:=.cells #[.slice none 0 0,.slice none 0 0] 122) (aw (o:=.cells #[Jn 0] 3) (aw (o:=.cells #[Jn 0] 48) g1)));have g2:=aw (o:=.cells #[.string s] 9) (aw (o:=.cells #[.slice none 0 0,.slice none 0 0] 122) (aw (o:=.cells #[Jn 0] 3) g2));have g3:=aw (o:=.cells #[.string s] 9) (aw (o:=.cells #[.slice none 0 0,.slice none 0 0] 122) g3);have g4:=aw (o:=.cells #[.string s] 9) g4;obtain⟨m,hp⟩:∃m,((((w.alloc (.cells #[.slice none 0 0] 76)).alloc (.cells #[Jn 0] 48)).alloc (.cells #[Jn 0] 3)).alloc (.cells #[.slice none 0 0,.slice none 0 0] 122)).alloc (.cells #[.string s] 9)=m:=⟨_,rfl⟩;rw[hp] at g1 g2 g3 g4 g5 hc hO ⊢;clear hp;have hN:MaxOk m:=hm.below hc hm.lt;have hT:=hm.lt;have hE:A3 w m [] m:=⟨⟨([],[]),rfl,by simp,by simp[hZ],.slice none 0 0,.slice none 0 0,[],[],⟨g4,by omega,bT.nil _ _,trivial,oh _ _ _ _,trivial,by simp,ew _⟩⟩,⟨g1,g2,g3⟩,hc,ew _⟩;refine wpIn_rangeFunc_ownH (α:=Pc) rfl (by omega) (gf:=81) (lb:= #[Pt (w.heap.size+1+1+1+1)]) rfl trivial (enters_of func81 (by kernel_rfl) rfl)
  (encs:=Ii) (Kp:=vF (w.heap.size+1+1+1+1)) (S:=λxs=>xs=gC s hs (s.size+1) 0) (Sp:=λpre=>∃rest,pre++rest=gC s hs (s.size+1) 0) (N:=s.size+1) (w0:=m) ?seq (λh k=>h.trans k) ?kb (fL _ _) (λ_=>rfl)
  (A3 w m) (KQ w) (A3.own w m (by omega)) (KQ.own w m (by omega)) hE
  (λx a' W=>∃Bx,W.heap[Bx]? =some (Obj.cells #[Jn (bI x.1.1.data.toList),Jn x.1.2,.string x.1.1] 128 (0,0))/\a'=BX w s x Bx)
  ?ax ?assign ?body ?done ?stop
 case seq=>
  intro l J Jx W hW hJ hV hY h0;have hG:W.heap[w.heap.size+1+1+1+1]? =some (.cells #[.string s] 9):=by rw[hW.block _ (by omega)];exact g5
  exact CA 9 (by omega) l (w.heap.size+1+1+1+1) s hs J Jx W hJ hY (by have:=hW.size;omega) (ae hG 0) (hN.below hW (by omega)) h0
 case kb=>
  intro W l o o' hl ho _ _;have H3:=ai ho;have hg:=SB W l o';exact⟨hg.block _ (by omega) (by simp;omega),hg.block _ (by omega) (by simp;omega),hg.size⟩
 case ax=>
  intro x a' _ X Y row hx hg hr;obtain⟨Bx,h1,h2⟩:=hx;exact⟨Bx,(fk hg).at h1 (λE=>lw (hr _ E).2 _ _ _ h1),h2⟩
 case assign=>
  intro l pre x W K hi hK;have hF:w.heap.size+1+1+1+1<W.heap.size:=by have:=hi.size;omega
  have hH:∀o,Below W.heap.size W (W.alloc o):=λo=>aR _ _;have hu:∀o,vF (w.heap.size+1+1+1+1) W (W.alloc o):=λo=>⟨tm W o _ hF,tm W o _ (by omega),by simp⟩;have ht:∀o,A3 w m pre (W.alloc o):=λo=>(A3.own w m (by omega)).alloc o hi;have hB:=ag hu;have hA:=ag ht;have HK:=ag hK;have hw:=λo=>fK W o;have hC:=ag hw;clear hu ht hK hw hH hi;unfold Ii
  gi_wp2
  exact HK.out _ _ ((KeepsOthers.alloc _ _).from _) (hB.out _) (hA.out _) ⟨W.heap.size,hC.out _,rfl⟩
 case body=>
  rintro l pre x a' W hl ⟨r,hr⟩ q ⟨Bx,H,rfl⟩ hlt;obtain⟨st,j,ha,hL,fv,ov,fs,its,d⟩:=q.rd;have U:=ag d;have F:=ag q;have hy:=ag H;have Q:=ag j;have c0:=ae H 0;have c1:=ae H 1;have c2:=ae H 2;simp at c0 c1 c2;have V:=ag (Ki W (w.heap.size+1+1+1) m.heap.size st.1 st.2 fv ov fs its x.1.1 x.1.2 d q.size ha (by omega) x.2.1 x.2.2);have hU:=q.size;clear d q H j;have P:=F8 st.1 st.2 x.1.1.data.toList;have hh:=ag (lP pre x ([],[]) st Q.out);have hn:=ag (Kg st.1 st.2 x.1.1.data.toList ha);cases hts:bJ st.1 st.2 x.1.1.data.toList with
  |inl er=>
   have h9:Hid (cl 54 #[Pt (w.heap.size+1+1+1),.agg #[Jn (bI x.1.1.data.toList),Jn x.1.2,.string x.1.1]] W λe W1=>e=.returned (Jn er)/\dj (w.heap.size+1+1+1) m.heap.size W W1):=V.out.mono (λe W1 h=>⟨h.2.1 er hts,h.1⟩);have bne0:(er !=0)=true:=by rw[SC];exact P er hts
   have h8:Hid (gK (pre++[x]) ([],[])=.inl (er,x.1.2)):=by show _=_;rw[hh.out,hts]
   clear hts P V;unfold BX
   gi_wp2_with (refine⟨trivial,?_⟩;gi_at_call 54;refine(CallsIn.inRound l (S4.2 h9.out)).mono ?_;rintro e W1 ⟨rfl,t⟩;have h4:=t.piece Bx _ _ hy.out;have b:nP W1 w.heap.size (.slice none 0 0) (Jn 0) (Jn 0):=F.out.res.upd t.upd (λk E=>RA (E.elim (by omega) (by omega)));have p1:=ae h4 1;have q1:=ae b.h1 0;have q2:=ae b.h2 0;have q3:=ae b.h3 0;have f1:=ah b.h1 0;have f2:=ah b.h2 0;have f3:=ah b.h3 0;simp at p1 q1 q2 q3;have g:=ag t;have G:=ag b;clear t h4 b c0 c1 c2)
   have mixed:prog.follows Departure.mixedOrders=true:=by kernel_rfl
   gi_region_o
   all_goals
    clear mixed
    gi_wp2
    obtain⟨L,M,v⟩:=D5 F.out.low g.out G.out (by omega) (.slice none 0 0) (Jn er) (Jn x.1.2);exact⟨L.from _,rfl,er,x.1.2,h8.out,M,v⟩
  |inr y=>
   have h9:Hid (cl 54 #[Pt (w.heap.size+1+1+1),.agg #[Jn (bI x.1.1.data.toList),Jn x.1.2,.string x.1.1]] W λe W1=>e=.returned (Jn 0)/\dj (w.heap.size+1+1+1) m.heap.size W W1/\∃fv ov fs its,fV W1 (w.heap.size+1+1+1) m.heap.size y.1 y.2 fv ov fs its):=V.out.mono (λe W1 h=>⟨(h.2.2 y hts).1,h.1,(h.2.2 y hts).2⟩);have h8:Hid (gK (pre++[x]) ([],[])=.inr y):=by show _=_;rw[hh.out,hts]
   have hq:=hn.out y hts;clear hts P V;unfold BX
   gi_wp2_with (refine⟨trivial,?_⟩;gi_at_call 54;refine(CallsIn.inRound l (S4.2 h9.out)).mono ?_;rintro e W1 ⟨rfl,t,h6⟩;have g:=ag t;have he:=ag h6;clear t h6 c0 c1 c2)
   have hM:=g.out.upd.below F.out.low.size (λk E=>by rcases E with rfl|E<;>omega);refine⟨g.out.keeps.from _,⟨g.out.upd.block _ (by omega) (by omega),g.out.upd.block _ (by omega) (by omega),g.out.upd.size⟩,⟨⟨y,h8.out,hq.1,by have:=hq.2;simp;omega,he.out⟩,F.out.res.upd g.out.upd (λk E=>RA (E.elim (by omega) (by omega))),F.out.low.trans hM,ku F.out.size g.out.upd.size⟩⟩
 case done=>
  rintro D xs W hD rfl q hK;obtain⟨st,j,ha,hL,fv,ov,fs,its,d⟩:=q.rd;have hd:=d.hits.length;simp only[Sy] at hd;obtain⟨a,hQ,hv,hX,H0,_⟩:=ay d.ho;obtain⟨af,capf,hP,H1,H2,_⟩:=ay d.hf;subst hv;subst hP;have c0:=ae d.hR 0;have c1:=ae d.hR 1;have q1:=ae q.res.h1 0;have q2:=ae q.res.h2 0;have q3:=ae q.res.h3 0;have f1:=ah q.res.h1 0;have f2:=ah q.res.h2 0;have f3:=ah q.res.h3 0;simp at c0 c1 q1 q2 q3;have U:=ag d;have F:=ag q;have Q:=ag j;have HK:=ag hK;clear d q j hK;cases hst:st.2 with
  |nil=>
   have hz:its.length=0:=by rw[<-hd,hst];rfl
   have hj:Hid (qh W m.heap.size fs W.heap.size):=by
    have:=U.out.sp;rw[ze.1 hz,List.flatMap_nil,Sr] at this;exact this
   have H4:¬(0:Int)<(its.length:Int):=by omega
   have i:Hid (fY s=.inr st.1):=by show _=_;unfold fY;rw[S3 hs,Q.out];simp only[hst];rfl
   clear hst hz
   gi_wp2
   obtain⟨L,M,v⟩:=Ak F.out.low F.out.res (.slice af fs.length capf) (Jn 0) (Jn 0);have hb:=L.same D _ HK.out rfl;refine lY (D:=D) hb M (v1:=.slice af fs.length capf) rfl rfl rfl rfl ?_;have I:=Hu F.out.res U.out.hf U.out.hfi (hj.out) (by omega) HK.out (.slice af fs.length capf) (Jn 0) (Jn 0);refine⟨v.trans ((fk (SB _ D (.deferred none))).below v.size (λk E=>by cases E;omega)),?_,?_⟩
   .intro er p h;rw[i.out] at h;cases h
   .intro f h;rw[i.out] at h;cases h;exact⟨_,fs,rfl,I.1,I.2.1,I.2.2⟩
  |cons o os=>
   have hz:(0:Int)<(its.length:Int):=by rw[<-hd,hst];simp only[j1];omega
   have i:Hid (fY s=.inl (2,s.size)):=by show _=_;unfold fY;rw[S3 hs,Q.out];simp only[hst];rfl
   clear hst
   gi_wp2
   obtain⟨L,M,v⟩:=Ak F.out.low F.out.res (.slice none 0 0) (Jn 2) (Jn s.size);have hb:=L.same D _ HK.out rfl;refine lY (D:=D) hb M (v1:=.slice none 0 0) rfl rfl rfl rfl ?_;refine⟨v.trans ((fk (SB _ D (.deferred none))).below v.size (λk E=>by cases E;omega)),?_,?_⟩
   .intro er p h;rw[i.out] at h;cases h;rfl
   .intro f h;rw[i.out] at h;cases h
 case stop=>
  rintro D c pre W hD ⟨rest,O⟩ ⟨rfl,er,p,j,h7,h5⟩ hK;have i:Hid (fY s=.inl (er,p)):=by show _=_;unfold fY;rw[S3 hs,<-O,uo pre rest _ _ j]
  have G:=ag h7;have Z:=ag h5;have HK:=ag hK;clear h7 h5 hK j O
  gi_wp2
  refine lY (D:=D) HK.out G.out rfl rfl rfl rfl ?_;refine⟨Z.out.trans ((fk (SB _ D (.deferred none))).below Z.out.size (λk E=>by cases E;omega)),?_,?_⟩
  .intro hS p' h;rw[i.out] at h;cases h;rfl
  .intro f h;rw[i.out] at h;cases h
theorem Ht(s:ao)(b:s.size<=maxLen)(w:aa)(hm:MaxOk w):cl 39 #[.string s] w (qA w (fY s)):=by
 by_cases c:s.size<=1000
 .exact BB s c w hm
 .have:fY s=.inl (1,1000):=by unfold fY;rw[Tk c]
  rw[this];exact EJ s (by omega) b w
end Go.Proofs.YtlobegpjenabaaaGreatDoor
