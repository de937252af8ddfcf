import Derived.Test.YtlobegpjenabaaaGreatDoorT27
import Derived.Test.YtlobegpjenabaaaGreatDoorT25
namespace Go.Proofs.YtlobegpjenabaaaGreatDoor
open Go.RowKit Tryz
set_option linter.unusedSimpArgs false
set_option linter.unusedVariables false
set_option maxRecDepth 100000
set_option maxHeartbeats 4000000
variable {x:XS} {p:V} {a vs:List V} {made B M n k g f:Nat} {i e:Int} {Y:a9} {ow mo mf:Nat->Option Nat} {fx fs:List X} {m:Rm} {z:BS} {e':bo} {w':aa} {s:au} {pc:tY} {xs:List au} {cs:List Vc}
set_option maxHeartbeats 8000000 in
theorem FC(w:aa)(Y:a9)(M:Nat)(m:Rm)(p:Vc)(l:List Vc)(h:aI w M m)(A:LR w Y m.args (p::l))(hY:Y M)(T:l.length<=1001)(y:0<=m.made/\m.made<=100000)(g:Nat)(pc:tY)(Q:a9)(xs:List au)(hp:p=⟨6,0,⟨#[]⟩,none,eb g⟩)(d:b9 w g pc)(hN:NR w Q pc.names xs)(I:l.length=xs.length)(P:aa->Prop)(K:∀(w1:aa) (F:Nat) (f:Fc),aB (λk=>k=M) w w1->aI w1 M {m with made:=m.made+1}->w.heap.size<=F->sX w1 w.heap.size F f xs l->f.up=pc.fr->(∀k,(Value.slice f.names.a f.names.n f.names.c).ownBlock=some k->w.heap.size<=k)->(∀k,(Value.slice f.vals.a f.vals.n f.vals.c).ownBlock=some k->w.heap.size<=k)->cl 184 #[Pt M,.slice pc.body.a pc.body.n pc.body.c,Pt F] w1 (cA P))(h0:xs=[])(D:pc.names=ef):cl 113 #[Pt M] w (cA P):=by
 have h4:=h.lt;have k13:=kd h 13 (Jn m.made);obtain⟨gl,ol,v,S,R,b⟩:=cT A hY (i:=0) (x:=p) rfl;have U:m.args.n=l.length+1:=A.1;have hd:m.args.n<=m.args.c:=A.2.1;have k12:w.cell? ⟨M,12,none⟩=some (.slice (some ⟨gl,ol,none⟩) (l.length+1) m.args.c):=by rw[<-v,<-U];exact h.cell 12
 have hf:=h.fz;obtain⟨V,X,Z,s3,s4⟩:=b w (TU _ _);rw[v7,rn] at V X Z s3 s4;have hb:=y.1;have hc:=y.2;obtain⟨W,q⟩:∃W,W=(w.setCell ⟨M,13,none⟩ (Jn (m.made+1))).alloc (Obj.cells p.c 96):=⟨_,rfl⟩;have j:aI W M {m with made:=m.made+1}:=by rw[q];exact bE (aw (TH h)) (by kernel_rfl)
 have o:aB (λk=>k=M) w W:=by rw[q];exact((TU _ _).aY).alloc _
 have r:W.heap[w.heap.size]? =some (.cells p.c 96):=by
  rw[q];have:=fK (w.setCell ⟨M,13,none⟩ (Jn (m.made+1))) (Obj.cells p.c 96);rw[show(w.setCell ⟨M,13,none⟩ (Jn (m.made+1))).heap.size=w.heap.size by simp[World.setCell]] at this;exact this
 have ha:(l.length:Int)<=1001:=by omega
 have h9:(l.length:Int)+1<=(m.args.c:Int):=by omega
 have N:=ag q;have HH:=ag (ei j (ei o r));have h8:g<w.heap.size:=ai d;have E:g≠M:=bB d h (by decide);have h6:g<w.heap.size+1:=by omega
 have h3:M≠g:=λe=>E e.symm;have O:=kd d 0 (.slice pc.names.a pc.names.n pc.names.c);have b1:=kd d 1 (.slice pc.body.a pc.body.n pc.body.c);have b2:=kd d 2 (.pointer pc.fr);have b3:=kd d 3 (.pointer pc.ch);have b4:=kd d 4 (Jn pc.form);rw[hp] at V X Z s3 s4;subst h0;have H:l=[]:=R9 I;subst H;rw[D] at O;simp only[ef] at O;subst hp;have J:W.heap.size=w.heap.size+1:=by rw[q];simp[World.setCell]
 have t:(W.alloc (Obj.cells (⟨ef,ef,pc.fr⟩:Fc).c 229)).heap[W.heap.size]? =some (.cells (⟨ef,ef,pc.fr⟩:Fc).c 229):=fK _ _;have L:=ag (K (W.alloc (Obj.cells (⟨ef,ef,pc.fr⟩:Fc).c 229)).drew W.heap.size ⟨ef,ef,pc.fr⟩ (o.alloc _).drew (j.alloc _) (by omega) ⟨t,oh _ _ _ _,oh _ _ _ _,rfl⟩ rfl (λk G=>by cases G) (λk G=>by cases G));rw[J] at L;have h7:g<w.heap.size+1+1:=by omega
 have h2:M<w.heap.size+1+1:=by omega
 have h1:M<w.heap.size+1:=by omega
 simp only[Vc.c] at N;clear h A b v U j o r q d t K;by_cases h5:m.args.c=1
 all_goals
  go_enter func113,ntmps113;go_wp2;go_region;go_wp2_with fail;rw[<-N.out];refine L.out.mono ?_;rintro e w9 ⟨rfl,u⟩;have C:=ag u;clear u;go_wp2;refine TT ?_;exact⟨rfl,C.out⟩
set_option maxHeartbeats 8000000 in
theorem FD(w:aa)(Y:a9)(M:Nat)(m:Rm)(p:Vc)(l:List Vc)(h:aI w M m)(hL:LR w Y m.args (p::l))(hY:Y M)(Ho:l.length<=1001)(hT:0<=m.made/\m.made<=100000)(g:Nat)(pc:tY)(Q:a9)(xs:List au)(hp:p=⟨6,0,⟨#[]⟩,none,eb g⟩)(T:b9 w g pc)(hN:NR w Q pc.names xs)(r:l.length=xs.length)(P:aa->Prop)(HC:∀(w1:aa) (F:Nat) (f:Fc),aB (λk=>k=M) w w1->aI w1 M {m with made:=m.made+1}->w.heap.size<=F->sX w1 w.heap.size F f xs l->f.up=pc.fr->(∀k,(Value.slice f.names.a f.names.n f.names.c).ownBlock=some k->w.heap.size<=k)->(∀k,(Value.slice f.vals.a f.vals.n f.vals.c).ownBlock=some k->w.heap.size<=k)->cl 184 #[Pt M,.slice pc.body.a pc.body.n pc.body.c,Pt F] w1 (cA P))(h0:0<xs.length):cl 113 #[Pt M] w (cA P):=by
 have Hv:=h.lt;have k13:=kd h 13 (Jn m.made);obtain⟨gl,ol,hg,hQ,hO,K⟩:=cT hL hY (i:=0) (x:=p) rfl;have hn:m.args.n=l.length+1:=hL.1;have HF:m.args.n<=m.args.c:=hL.2.1;have k12:w.cell? ⟨M,12,none⟩=some (.slice (some ⟨gl,ol,none⟩) (l.length+1) m.args.c):=by rw[<-hg,<-hn];exact h.cell 12
 have hf:=h.fz;obtain⟨s0,s1,s2,s3,s4⟩:=K w (TU _ _);rw[v7,rn] at s0 s1 s2 s3 s4;have HB:=hT.1;have HD:=hT.2;obtain⟨W,hW⟩:∃W,W=(w.setCell ⟨M,13,none⟩ (Jn (m.made+1))).alloc (Obj.cells p.c 96):=⟨_,rfl⟩;have h9:aI W M {m with made:=m.made+1}:=by rw[hW];exact bE (aw (TH h)) (by kernel_rfl)
 have ho:aB (λk=>k=M) w W:=by rw[hW];exact((TU _ _).aY).alloc _
 have h6:W.heap[w.heap.size]? =some (.cells p.c 96):=by
  rw[hW];have:=fK (w.setCell ⟨M,13,none⟩ (Jn (m.made+1))) (Obj.cells p.c 96);rw[show(w.setCell ⟨M,13,none⟩ (Jn (m.made+1))).heap.size=w.heap.size by simp[World.setCell]] at this;exact this
 have Hf:(l.length:Int)<=1001:=by omega
 have He:(l.length:Int)+1<=(m.args.c:Int):=by omega
 have HW:=ag hW;have HH:=ag (ei h9 (ei ho h6));have HA:g<w.heap.size:=ai T;have hM:g≠M:=bB T h (by decide);have Hy:g<w.heap.size+1:=by omega
 have Hu:M≠g:=λe=>hM e.symm;have b0:=kd T 0 (.slice pc.names.a pc.names.n pc.names.c);have b1:=kd T 1 (.slice pc.body.a pc.body.n pc.body.c);have b2:=kd T 2 (.pointer pc.fr);have b3:=kd T 3 (.pointer pc.ch);have b4:=kd T 4 (Jn pc.form);rw[hp] at s0 s1 s2 s3 s4;obtain⟨hh,Hg,HE,hU⟩:=hN;obtain⟨O,cn,hl,V,_,h4⟩:=hU h0;have Hn:O<w.heap.size:=ai V;have hR:O≠M:=bB V h (by decide);rw[hl,hh] at b0;obtain⟨gl2,ol2,h3,Hl,Hm,hK⟩:=(hL.tail hg).flat (by omega);simp only at h3;cases h3;have H3:W.heap.size=w.heap.size+1:=by rw[hW];simp[World.setCell]
 obtain⟨b,o⟩:∃b,b=W.alloc (Obj.cells (⟨ef,ef,pc.fr⟩:Fc).c 229):=⟨_,rfl⟩;have R:fp b (w.heap.size+1) ⟨ef,ef,pc.fr⟩:=by
  unfold fp;rw[o,<-H3];exact fK _ _
 have X:aB (λk=>k=M) w b:=by rw[o];exact ho.alloc _
 have hC:aI b M {m with made:=m.made+1}:=by rw[o];exact h9.alloc _
 have Z:b.heap.size=w.heap.size+2:=by rw[o];simp[H3]
 have hd:b9 b g pc:=X.at T hM;have h7:b.heap[w.heap.size]? =some (.cells p.c 96):=by rw[o];exact aw h6
 have H6:Hid (∀(j:Nat) u,(xs.map bO)[j]? =some u->b.drew.cell? (Addr.add ⟨O,0,none⟩ j)=some u):=λj u H=>by
  have h1:b.heap[O]? =some (.cells cn 9):=X.at V hR;rw[show Addr.add ⟨O,0,none⟩ j=⟨O,j,none⟩ by simp[Addr.add];exact λe=>e.symm];show b.cell? ⟨O,j,none⟩=some u;rw[ae h1];rw[Sa] at H;cases hx:xs[j]? with
  |none=>rw[hx] at H;cases H
  |some s=>
   rw[hx] at H;cases H;exact h4 j s hx
 have Ha:Hid (∀w2,aB (λk=>k=M) w w2->∀(j:Nat) x,(bw l)[j]? =some x->w2.cell? (Addr.add ⟨gl,ol+5,none⟩ j)=some x):=λw2 hu j x H=>by
  have ha:Addr.add ⟨gl,ol+5,none⟩ j=⟨gl,ol+5+j,none⟩:=by simp[Addr.add]
  have hx:=hK j x H;rw[ha] at hx ⊢;rw[xo (a:=⟨gl,ol+5+j,none⟩) (hu.block gl hQ hO)];exact hx
 have c0:=kd R 0 (.slice none 0 0);have cf:=ah R;have d0:b.cell? ⟨g,0,none⟩=some (.slice (eb O) xs.length pc.names.c):=by rw[<-hh,<-hl];exact ae hd 0
 have e4:b.cell? ⟨w.heap.size,4,none⟩=some (.pointer (eb g)):=by rw[ae h7,hp];rfl
 have Hx:g<b.heap.size:=by omega
 have Hi:w.heap.size+1<b.heap.size:=by omega
 obtain⟨i0,hi,H0,H1,H2⟩:=sv rL;have HI:=ag (ei hi (ei H0 (ei H1 H2)));obtain⟨j0,H,hV,hX,hZ⟩:=sv kh;have HJ:=ag (ei H (ei hV (ei hX hZ)));have mixed:prog.follows Departure.mixedOrders=true:=by kernel_rfl
 have HQ:=ag (ei R (ei X (ei hC (ei hd h7))));have H4:=ag HC;have hS:l.length=xs.length:=r;have hv:=ag r;have Hw:¬m.args.c=1:=by omega
 have Ht:=ag hp;have hy:=ag Z;subst hp;rw[hW] at o;simp only[Vc.c,Fc.c,ef] at o;have Hb:=ag o;have Hz:g<w.heap.size+1+1:=by omega
 rw[r] at k12 He Hf;have HG:xs.length<=1001:=by omega
 clear h hL K hg hn h9 ho h6 hW T R HC X hC hd h7 hi H0 H1 H2 H hV hX hZ hK h4 hU hl V o Z HW hS hh Hg r;go_enter func113,ntmps113;go_wp2;rw[<-Hb.out];go_region_law (refine R2 _ rfl (.tmp 54) (.tmp 59) 26 rfl w.heap.size 9 i0 (.string ⟨#[]⟩) 1 16 underlying26 HI.out.1 HI.out.2.1 HI.out.2.2.1 HI.out.2.2.2 rfl (by decide) (.slice none 0 0) 0 [] (by simp[Act.eval,Act.put]) (oh _ _ _ _) ⟨O,0,none⟩ xs.length pc.names.c (xs.map bO) (by simp[Act.eval,Act.put]) (by simp) H6.out (by intro u hu;simp at hu;obtain⟨s,_,rfl⟩:=hu;rfl) h0 (by unfold maxLen;omega) (by omega) (by show w.heap.size<=b.heap.size;omega) b.heap.size rfl ?_;intro g6 cap6 w6 L y h2 Hp;have hr:aB (λ_=>False) b w6:=T2 ((TU _ b).drew) y (λk hk _=>by cases hk);have I:fp w6 (w.heap.size+1) ⟨ef,ef,pc.fr⟩:=hr.at HQ.out.1 (λh=>h);have c06:w6.cell? ⟨w.heap.size+1,0,none⟩=some (.slice none 0 0):=ae I 0;have cf6:=ah I;have Hj:=ai I;have H9:=ag hr;have ht:=ag I;have H7:=ag L;have Hs:=ag h2;clear L y h2 hr I)
 all_goals
  obtain⟨D,J⟩:∃D,D=w6.setCell ⟨w.heap.size+1,0,none⟩ (.slice (eb g6) xs.length cap6):=⟨_,rfl⟩;have h8:fp D (w.heap.size+1) ⟨⟨eb g6,xs.length,cap6⟩,ef,pc.fr⟩:=by
   rw[J];have:=ht.out;unfold fp at this ⊢;rw[TH this]
   congr 1
  have E:aB (λk=>k=w.heap.size+1) b D:=by rw[J];exact(H9.out.mono (λ_ h=>h.elim)).trans ((TU _ w6).aY) (λ_ _ h=>h)
  have Z:=hy.out;have C:aB (λk=>k=M) w D:=HQ.out.2.1.trans E (λj H e=>by omega);have hD:aI D M {m with made:=m.made+1}:=E.at HQ.out.2.2.1 (by omega);have hG:b9 D g pc:=E.at HQ.out.2.2.2.1 (by omega);have hz:=E.at HQ.out.2.2.2.2 (by omega);have hF:D.ownsRow w.heap.size 9 1 (.slice (eb g6) xs.length cap6) xs.length (xs.map bO):=by
   have h1:=H7.out;simp only[C4,Sg] at h1;rw[J];exact aq (w':=w6.setCell ⟨w.heap.size+1,0,none⟩ (.slice (eb g6) xs.length cap6)) h1 (S:=λk=>k=w.heap.size+1) ((TU _ w6).aY) (λq hq e=>by
    obtain⟨c,hc⟩:=bt h1 hq;exact bB hc ht.out (by decide) e)
  have x1:=kd h8 1 (.slice none 0 0);have Hr:=C.size;have hw:=ag (Ha.out D C);have d:=ag (ei h8 (ei C (ei hD (ei hG (ei hz (ei hF E))))));have Hc:=ag J;have Hh:bw l=bw l:=rfl;have H5:Hid ((bw l).length=xs.length *5):=by show _=_;rw[eX,hv.out]
  clear h8 E C hD hG hz hF J c0 cf d0 e4 c06 cf6 Hh;go_wp2_with (first|(rw[<-Hc.out])|(at_builtin;refine nl _ rfl (.tmp 67) (.tmp 68) 65 rfl w.heap.size 96 j0 fm 5 48 underlying65 HJ.out.1 HJ.out.2.1 HJ.out.2.2.1 HJ.out.2.2.2 rfl (by decide) _ 0 [] rfl (oh _ _ _ _) ⟨gl,ol+5,none⟩ xs.length _ (bw l) rfl H5.out hw.out (kS l) h0 (by unfold maxLen;omega) (by omega) (by omega) D.heap.size rfl ?_));intro g8 cap8 w8 v A hJ Hq;have hs:aB (λ_=>False) D w8:=T2 (TU _ D) A (λk hk _=>by cases hk);have t:fp w8 (w.heap.size+1) ⟨⟨eb g6,xs.length,cap6⟩,ef,pc.fr⟩:=hs.at d.out.1 (λh=>h);obtain⟨N,U⟩:∃N,N=w8.setCell ⟨w.heap.size+1,1,none⟩ (.slice (eb g8) xs.length cap8):=⟨_,rfl⟩;have hB:fp N (w.heap.size+1) ⟨⟨eb g6,xs.length,cap6⟩,⟨eb g8,xs.length,cap8⟩,pc.fr⟩:=by
   rw[U];unfold fp at t ⊢;rw[TH t]
   congr 1
  have hm:aB (λk=>k=w.heap.size+1) w8 N:=by rw[U];exact(TU _ w8).aY
  have G:aB (λk=>k=w.heap.size+1) D N:=(hs.mono (λ_ h=>h.elim)).trans hm (λ_ _ h=>h);have HK:=d.out.2.2.2.2.2.2.size;have Z:=hy.out;have h5:aB (λk=>k=M) w N:=d.out.2.1.trans G (λj H e=>by omega);have hE:aI N M {m with made:=m.made+1}:=G.at d.out.2.2.1 (by omega);have hH:b9 N g pc:=G.at d.out.2.2.2.1 (by omega);have hA:=G.at d.out.2.2.2.2.1 (by omega);have hb:=aq d.out.2.2.2.2.2.1 G (λq hq e=>by
   obtain⟨c,hc⟩:=bt d.out.2.2.2.2.2.1 hq;exact bB hc d.out.1 (by decide) e)
  have he:=aq v hm (λq hq e=>by
   obtain⟨c,hc⟩:=bt v hq;exact bB hc t (by decide) e)
  have r:=hv.out;have HS:=ag (H4.out N (w.heap.size+1) ⟨⟨eb g6,xs.length,cap6⟩,⟨eb g8,xs.length,cap8⟩,pc.fr⟩ h5 hE (by omega) ⟨hB,hb,by rw[r];exact he,r.symm⟩ rfl (λk hk=>(ar hb hk).1) (λk hk=>(ar he hk).1));have y1:=kd t 1 (.slice none 0 0);have yf:=ah t;have Hk:=ai t;have y4:=kd hA 4 (Pt g);have yb:=kd hH 1 (.slice pc.body.a pc.body.n pc.body.c);have Hd:=ag U;clear v A hJ hs t hB hm G h5 hE hH hA hb he U r x1;go_wp2_with (first|(rw[<-Hd.out]));refine HS.out.mono ?_;rintro e wz ⟨rfl,hI⟩;have H8:=ag hI;clear hI;go_wp2;refine TT ?_;exact⟨rfl,H8.out⟩
theorem oB(b:x.md=.app p a){q:XR}(c:dN x p a=q):A7 x q:=.inl (by unfold dG;rw[b];exact c)
theorem ia(b:x.md=.app p a)(h:i=(made:Int)):i+1=((made+x.md.cost:Nat):Int):=by rw[b,h];rfl
theorem mE{w:aa}(h:RC B w Y ow mo mf M fx m x)(q:aI w M m)(A:GX z vs x)(o:m.made=(made:Int))(v:made<=100000)(b:x.md=.app p a)(t:a.length<=1001)(u:nI fx m x){c:Vc}{l:List Vc}(C:LR w Y m.args (c::l))(hp:RX w mo p c)(hR:fU w mo a l)(y:dN x p a=jl x e)(j:MU w M {m with made:=m.made+1,st:=2,er:=e} e' w'):cA (lf B w Y ow M fx x n made) e' w':=by
 obtain⟨rfl,d,r⟩:=j;exact⟨rfl,h.fail q r _ d e _ (oB b y) ⟨rfl,rfl,rfl⟩ (h.ch.deep.upd q r) (ia b o)⟩
theorem fU.len'{w:aa}{l:List Vc}(h:fU w mo a l):l.length=a.length:=(fU.length h).symm
theorem jd{w:aa}(h:RC B w Y ow mo mf M fx m x)(A:aI w M m)(S:GX z vs x)(F:m.made=(made:Int))(L:made<=100000)(r:x.md=.app p a)(C:a.length<=1001)(D:nI fx m x){c:Vc}{l:List Vc}(P:LR w Y m.args (c::l))(hp:RX w mo p c)(hR:fU w mo a l)(Q:aP[k]? =some s)(hid:p=.proc (2 *k))(T:c=⟨7,0,⟨s.toArray⟩,none,none⟩)(U:k≠13)(b:a.length=eD k)(I:Vc)(er:Int)(j:(er=0/\∃v,fJ x k a=fX x v/\RX w mo v I)\/(¬er=0/\fJ x k a=jl x er))(hf:∀W u,aB (λk=>k=M) w W->aI W M {m with made:=m.made+1}->LR W Y u l->cl 190 #[Pt M,.string ⟨s.toArray⟩,.slice u.a u.n u.c] W (qC W I er)):cl 113 #[Pt M] w (cA (lf B w Y ow M fx x n made)):=by
 have E:=ej Q;have d:dN x p a=fJ x k a:=by
  rw[hid];simp only[dN,sq];rw[fN (by omega),show 2 *k/2=k by omega,h.o1.2 k E];simp only[DD];rw[fN b]
 have G:0<l.length:=by rw[hR.len',b];unfold eD;split<;>omega
 refine(ss w Y M m c l A P (h.yM A) (by rw[hR.len'];exact C) (by omega) k s Q T (by rw[hR.len'];exact b) U G (λc2 er2 R w1=>c2=I/\er2=er/\R={m with made:=m.made+1}/\aB (λk=>k=M) w w1) λW u H q K=>(hf W u H q K).mono ?_).mono ?_
 .rintro e w1 ⟨rfl,hb⟩;exact⟨I,er,_,rfl,(hb.block M q.lt).trans q,rfl,rfl,rfl,H.trans (TW _ hb) (λ_ _ h=>h)⟩
 .rintro e w' ⟨rfl,c2,er2,R,w1,⟨rfl,rfl,rfl,H⟩,V⟩;rcases V with⟨J,o,t⟩|⟨J,o,t⟩
  .rcases j with⟨_,v,N,O⟩|⟨h1,_⟩
   .have y:=H.trans t (λ_ _ h=>h);have k3:=h.kr A y;exact⟨rfl,h.arm A y _ o {x with md:=.back v} 0 (kc _) (oB r (by rw[d,N];rfl)) ⟨rfl,rfl,h.st.1,h.st.2⟩ rfl ⟨rfl,rfl,rfl⟩ (ia r F) (iU.ak k3 (TV _) (TV _) (h.sW A y) _ _ h.ch) h.la ⟨rfl,T5 k3 (TV _) _ _ O,D⟩⟩
   .exact absurd J h1
  .rcases j with⟨h1,_⟩|⟨_,X⟩
   .exact absurd h1 J
   .exact mE h A S F L r C D P hp hR (by rw[d,X]) ⟨rfl,o,H.trans t (λ_ _ h=>h)⟩
theorem De{w:aa}(i:Int):RX w mo (.int (AY i)) (cQ 1 (wrap64 i)):=⟨by rw[KH],by unfold AY;omega,by unfold AY;omega⟩
theorem C8{w:aa}{l:List Vc}(h:fU w mo a l)(b:a.length=2):∃u v c d,a=[u,v]/\l=[c,d]/\RX w mo u c/\RX w mo v d:=by
 obtain⟨u,v,rfl⟩:=iR b
 match l,h with
 |[c,d],h=>exact⟨u,v,c,d,rfl,rfl,h.1,h.2.1⟩
 |[],h=>exact h.elim
 |[_],h=>exact h.2.elim
 |_::_::_::_,h=>exact h.2.2.elim
theorem wU{w:aa}{l:List Vc}(h:fU w mo a l)(b:a.length=1):∃u c,a=[u]/\l=[c]/\RX w mo u c:=by
 obtain⟨u,rfl⟩:=iP b
 match l,h with
 |[c],h=>exact⟨u,c,rfl,rfl,h.1⟩
 |[],h=>exact h.elim
 |_::_::_,h=>exact h.2.elim
theorem mF{w:aa}(h:RC B w Y ow mo mf M fx m x)(H:aI w M m)(F:GX z vs x)(t:m.made=(made:Int))(A:made<=100000)(y:x.md=.app p a)(q:a.length<=1001)(r:nI fx m x){c:Vc}{l:List Vc}(G:LR w Y m.args (c::l))(hp:RX w mo p c)(hR:fU w mo a l)(K:aP[k]? =some s)(hid:p=.proc (2 *k))(I:c=⟨7,0,⟨s.toArray⟩,none,none⟩)(R:k<5)(d:a.length=eD k)(f:Int->Int->V)(hf:∀u v,fJ x k [u,v]=rN x f u v)(E:Int->Int->Vc)(J:∀i j,RX w mo (f i j) (E i j))(w1:∀W u (a b:Vc),LR W Y u [a,b]->a.k=1->b.k=1->cl 190 #[Pt M,.string ⟨s.toArray⟩,.slice u.a u.n u.c] W (qC W (E a.n b.n) 0))(P:(⟨s.toArray⟩:ao)=⟨#[43]⟩\/(⟨s.toArray⟩:ao)=⟨#[45]⟩\/(⟨s.toArray⟩:ao)=⟨#[42]⟩\/(⟨s.toArray⟩:ao)=⟨#[60]⟩\/(⟨s.toArray⟩:ao)=⟨#[61]⟩):cl 113 #[Pt M] w (cA (lf B w Y ow M fx x n made)):=by
 obtain⟨u,v,C,D,rfl,rfl,N,O⟩:=C8 hR (by rw[d];unfold eD;rw[fb (by omega)]);have L:=RX.kd N;have kv:=RX.kd O;by_cases h1:C.k=1
 .obtain⟨i,rfl⟩:∃i,u=.int i:=by cases u<;>simp only at L<;>first|exact⟨_,rfl⟩|omega
  by_cases h2:D.k=1
  .obtain⟨j,rfl⟩:∃j,v=.int j:=by cases v<;>simp only at kv<;>first|exact⟨_,rfl⟩|omega
   refine jd h H F t A y q r G hp hR K hid I (by omega) d (E i j) 0 (.inl ⟨rfl,_,hf _ _,J i j⟩) λW u Q _ o=> ?_;have:=w1 W u C D o h1 h2;rw[N.1,O.1] at this;exact this
  .exact jd h H F t A y q r G hp hR K hid I (by omega) d _ 8 (.inr ⟨by decide,by rw[hf];cases v<;>simp only at kv<;>first|rfl|exact absurd kv h2⟩) λW u _ _ o=>D7 W Y M u C D o _ P (.inr ⟨by simpa using h1,by simpa using h2⟩)
 .exact jd h H F t A y q r G hp hR K hid I (by omega) d _ 8 (.inr ⟨by decide,by rw[hf];cases u<;>simp only at L<;>first|rfl|exact absurd L h1⟩) λW u _ _ o=>D7 W Y M u C D o _ P (.inl (by simpa using h1))
theorem RX.pt{w:aa}:∀{v:V} {c:Vc},RX w mo v c->jD w c.p/\jD w c.f
 |.int _,_,h=>by rw[h.1];exact⟨.inl rfl,.inl rfl⟩
 |.bool _,_,h=>by have h:_=_:=h;rw[h];exact⟨.inl rfl,.inl rfl⟩
 |.sym _,_,h=>by rw[h.1];exact⟨.inl rfl,.inl rfl⟩
 |.empty,_,h=>by have h:_=_:=h;rw[h];exact⟨.inl rfl,.inl rfl⟩
 |.nothing,_,h=>by have h:_=_:=h;rw[h];exact⟨.inl rfl,.inl rfl⟩
 |.pair _ _ _,_,h=>by obtain⟨g,_,_,_,h,b,_⟩:=h;rw[h];exact⟨.inr ⟨g,_,_,rfl,b⟩,.inl rfl⟩
 |.proc _,_,.inl ⟨_,_,_,_,h⟩=>by rw[h];exact⟨.inl rfl,.inl rfl⟩
 |.proc _,_,.inr ⟨_,_,g,p,_,b,h⟩=>by rw[h];exact⟨.inl rfl,.inr ⟨g,_,_,rfl,b⟩⟩
theorem nR(ho:∀i,i<14->x.obs[i]? =some (some (.first i)))(c:k<14)(b:a.length=eD k):dN x (.proc (2 *k)) a=fJ x k a:=by
 simp only[dN,sq];rw[fN (by omega),show 2 *k/2=k by omega,ho k c];simp only[DD];rw[fN b]
theorem K9{w:aa}(h:RC B w Y ow mo mf M fx m x)(r:aI w M m)(hG:GX z vs x)(L:m.made=(made:Int))(U:made<=100000)(D:x.md=.app p a)(S:a.length<=1001)(H:nI fx m x){c:Vc}{l:List Vc}(R:LR w Y m.args (c::l))(hp:RX w mo p c)(hR:fU w mo a l)(hid:p=.proc 10)(T:c=⟨7,0,⟨#[99,111,110,115]⟩,none,none⟩)(C:a.length=2):cl 113 #[Pt M] w (cA (lf B w Y ow M fx x n made)):=by
 obtain⟨u,v,j,o,rfl,rfl,V,X⟩:=C8 hR C;refine(ss w Y M m c _ r R (h.yM r) (by simp) (by omega) 5 _ rfl T (by simp[eD]) (by decide) (by simp) (λc2 er2 E w1=>∃g,c2=eg g/\er2=0/\E={m with made:=m.made+1}/\aB (λk=>k=M) w w1/\w.heap.size<=g/\gY w1 g j o) λW u2 b y F=> ?_).mono ?_
 .have fin:∀e w1,PC W j o e w1->∃c2 er E,e=.returned (.tuple #[.agg c2.c,Jn er])/\aI w1 M E/\∃g,c2=eg g/\er=0/\E={m with made:=m.made+1}/\aB (λk=>k=M) w w1/\w.heap.size<=g/\gY w1 g j o:=by
   rintro e w1 ⟨g,rfl,I,G,hb⟩;exact⟨eg g,0,_,rfl,(hb.block M y.lt).trans y,g,rfl,rfl,rfl,b.trans (TW _ hb) (λ_ _ h=>h),ku b.size I,G⟩
  exact(FL W Y M u2 j o F).mono fin
 .rintro e w' ⟨rfl,c2,er2,E,w1,⟨g,rfl,rfl,rfl,P,I,G⟩,O⟩;rcases O with⟨_,t,b⟩|⟨Q,_⟩
  .have d:=P.trans b (λ_ _ h=>h);have k3:=h.kr r d;have A:gY w' g j o:=b.at G (λe=>by have:=r.lt;omega);have N:mo (2 *x.obs.length)=none:=by
    cases e:mo (2 *x.obs.length) with
    |none=>rfl
    |some Z=>exact absurd (h.mdm _ _ e).2 (by omega)
   have K:=fS mo _ g N;obtain⟨h1,J,_⟩:=h.obj r d _ t {x with md:=.back (.pair (2 *x.obs.length) u v),obs:=x.obs++[none]} ⟨rfl,rfl,h.st.1,h.st.2⟩ rfl g I (ai A) none ⟨rfl,rfl,rfl⟩ (λq O=>by cases O) (iU.ak k3 K (TV _) (h.sW r d) _ _ h.ch) h.la;exact⟨rfl,Y,ow,J,.inr (.inl ⟨_,0,kc _,oB D (by rw[hid,nR (k:=5) h.o1.2 (by decide) rfl];rfl),_,_,_,t,h1,⟨rfl,⟨g,j,o,ey _ _ _,rfl,A,T5 k3 K _ _ V,T5 k3 K _ _ X⟩,H⟩,ia D L⟩)⟩
  .exact absurd rfl Q
theorem Ld{w:aa}(h:RC B w Y ow mo mf M fx m x)(E:aI w M m)(hG:GX z vs x)(I:m.made=(made:Int))(Q:made<=100000)(C:x.md=.app p a)(N:a.length<=1001)(G:nI fx m x){c:Vc}{l:List Vc}(X:LR w Y m.args (c::l))(hp:RX w mo p c)(hR:fU w mo a l)(hid:p=.proc 24)(F:c=⟨7,0,⟨#[100,105,115,112,108,97,121]⟩,none,none⟩)(H:a.length=1):cl 113 #[Pt M] w (cA (lf B w Y ow M fx x n made)):=by
 obtain⟨v,V,rfl,rfl,hv⟩:=wU hR H;have R:m.out.n=x.out.length:=dg h.ou.1;have O:dN x p [v]=fJ x 12 [v]:=by rw[hid];exact nR (k:=12) h.o1.2 (by decide) rfl
 by_cases r:x.out.length=40
 .refine jd h E hG I Q C N G X hp hR (k:=12) rfl hid F (by decide) rfl (cQ 0 0) 10 (.inr ⟨by decide,by simp only[fJ];rw[fN r]⟩) λW u2 d A t=> ?_;exact FN W Y M u2 V t _ A (by rw[<-r];exact R)
 .have K:x.out.length<40:=by have:=h.ou.2.2;omega
  refine(ss w Y M m c _ E X (h.yM E) (by simp) (by omega) 12 _ rfl F (by simp[eD]) (by decide) (by simp) (λc2 er2 D w1=>∃u:Sl,c2=cQ 9 0/\er2=0/\D={m with made:=m.made+1,out:=u}/\w1.ownsRow 0 9 1 u.v (x.out.length+1) ((x.out++[(bK v).take 100]).map bO)/\(∀k,u.v.ownBlock=some k->ow k=some 0\/w.heap.size<=k)/\aB (λk=>k=M\/ow k=some 0) w w1/\aI w1 M D) λW u2 d A t=> ?_).mono ?_
  .have fin:∀e w1,PF W 0 M {m with made:=m.made+1} x.out ((bK v).take 100) e w1->∃c2 er D,e=.returned (.tuple #[.agg c2.c,Jn er])/\aI w1 M D/\∃u:Sl,c2=cQ 9 0/\er=0/\D={m with made:=m.made+1,out:=u}/\w1.ownsRow 0 9 1 u.v (x.out.length+1) ((x.out++[(bK v).take 100]).map bO)/\(∀k,u.v.ownBlock=some k->ow k=some 0\/w.heap.size<=k)/\aB (λk=>k=M\/ow k=some 0) w w1/\aI w1 M D:=by
    rintro e w1 ⟨u,rfl,o,ho,P,q⟩;refine⟨cQ 9 0,0,_,rfl,o,u,rfl,rfl,rfl,ho,λk j=> ?_,(d.mono λk e=>.inl e).trans (q.mono (S':=λk=>k=M\/ow k=some 0) λk e=>e.imp_right (h.ou.2.1 k)) (λ_ _ h=>h),o⟩;rcases P with e|e
    .exact .inl (h.ou.2.1 k (e▸j))
    .exact .inr (ku d.size (e k j))
   exact(FM W Y M u2 V t 0 _ x.out mo v (T5 (h.kr E d) (TV _) _ _ hv) A (h.Ji E d).1 K (kc _)).mono fin
  .rintro e w' ⟨rfl,c2,er2,D,w1,⟨u,rfl,rfl,rfl,ho,P,q,o⟩,hq⟩;rcases hq with⟨_,y,d⟩|⟨Z,_⟩
   .have S:=q.trans (d.mono (S':=λk=>k=M\/ow k=some 0) λk e=>.inl e) (λ_ _ h=>h);have h2:M<w1.heap.size:=gr E.lt q.size;have J:w'.ownsRow 0 9 1 u.v (x.out.length+1) ((x.out++[(bK v).take 100]).map bO):=dK ho λb hb=>d.block b (ar ho hb).2 (by obtain⟨c,F⟩:=bt ho hb;exact mg o F (by decide));have L:∀k,(k=M\/u.v.ownBlock=some k)->(ow k=some 0\/w.heap.size<=k)/\∃c T,w'.heap[k]? =some (Obj.cells c T (0,0))/\MT.contains T=true:=λk j=>by
     rcases j with e|e
     .subst e;exact⟨.inl h.mk2.owM,_,_,y,by decide⟩
     .obtain⟨c,F⟩:=bt J e;exact⟨P k e,c,_,F,by decide⟩
    obtain⟨U,ow',h1,hg⟩:=h.Gh 0 (λk=>k=M\/u.v.ownBlock=some k) S L _ y (λ_=>.inl rfl) mf (TV _) {x with md:=.back .nothing,out:=x.out++[(bK v).take 100]} ⟨rfl,rfl,h.st.1,h.st.2⟩ rfl (λow' _ _ i f hi=>.inl ⟨hi,by omega⟩) (λow' hK _=>⟨by simpa using J,λk j=>hK k (.inr j),by simp;omega⟩) (λU k hy=>iU.ak k (TV _) (TV _) hy _ _ h.ch) h.la h.fdm;exact⟨rfl,U,ow',hg,.inr (.inl ⟨_,0,kc _,oB C (by rw[O];simp only[fJ];rw[fb r];rfl),mo,mf,_,y,h1,⟨rfl,rfl,G⟩,ia C I⟩)⟩
   .exact absurd rfl Z
theorem Oj{w:aa}(h:RC B w Y ow mo mf M fx m x)(N:aI w M m)(Q:GX z vs x)(J:m.made=(made:Int))(L:made<=100000)(K:x.md=.app p a)(H:a.length<=1001)(I:nI fx m x){c:Vc}{l:List Vc}(R:LR w Y m.args (c::l))(hp:RX w mo p c)(hR:fU w mo a l)(O:aP[k]? =some s)(hid:p=.proc (2 *k))(S:c=⟨7,0,⟨s.toArray⟩,none,none⟩)(T:k=6\/k=7\/k=8\/k=9\/k=10)(r:a.length=eD k):cl 113 #[Pt M] w (cA (lf B w Y ow M fx x n made)):=by
 obtain⟨v,j,rfl,rfl,D⟩:=wU hR (by rw[r];unfold eD;rw[fN (by omega)]);have kv:=RX.kd D;have go:∀(C:Vc) (er:Int),((er=0/\∃P,fJ x k [v]=fX x P/\RX w mo P C)\/(¬er=0/\fJ x k [v]=jl x er))->(∀W u,KR w W->LR W Y u [j]->cl 190 #[Pt M,.string ⟨s.toArray⟩,.slice u.a u.n u.c] W (qC W C er))->cl 113 #[Pt M] w (cA (lf B w Y ow M fx x n made)):=λC er A hf=>jd h N Q J L K H I R hp hR O hid S (by omega) r C er A λW u V _ d=>hf W u (h.kr N V) d;have h1:∀{q:Int},j.k=q->q≠1->(j.k==1)=false:=λe t=>by rw[e];simpa using t
 have F:∀{q:Int},j.k=q->q≠4->(j.k==4)=false:=λe t=>by rw[e];simpa using t
 have o:∀{q:Int},j.k=q->q≠5->(j.k==5)=false:=λe t=>by rw[e];simpa using t
 have h2:∀{q:Int},j.k=q->q≠2->(j.k==2)=false:=λe t=>by rw[e];simpa using t
 rcases T with rfl|rfl|rfl|rfl|rfl
 all_goals cases O
 .cases v with
  |pair id y z=>
   obtain⟨g,c1,c2,_,E,G,r1,r2⟩:=D;exact go c1 0 (.inl ⟨rfl,y,rfl,r1⟩) λW u k d=>uU W Y M u j d g c1 c2 E (k.pair _ _ G) _ _ (.inl ⟨rfl,rfl⟩)
  |int i=>exact go _ 8 (.inr ⟨by decide,rfl⟩) λW u _ d=>ly W Y M u j d (o kv (by decide)) _ (.inl rfl)
  |proc id=>exact go _ 8 (.inr ⟨by decide,rfl⟩) λW u _ d=>ly W Y M u j d (by rcases kv with e|e|e<;>exact o e (by decide)) _ (.inl rfl)
  |_=>exact go _ 8 (.inr ⟨by decide,rfl⟩) λW u _ d=>ly W Y M u j d (o kv (by decide)) _ (.inl rfl)
 .cases v with
  |pair id y z=>
   obtain⟨g,c1,c2,_,E,G,r1,r2⟩:=D;exact go c2 0 (.inl ⟨rfl,z,rfl,r2⟩) λW u k d=>uU W Y M u j d g c1 c2 E (k.pair _ _ G) _ _ (.inr ⟨rfl,rfl⟩)
  |int i=>exact go _ 8 (.inr ⟨by decide,rfl⟩) λW u _ d=>ly W Y M u j d (o kv (by decide)) _ (.inr rfl)
  |proc id=>exact go _ 8 (.inr ⟨by decide,rfl⟩) λW u _ d=>ly W Y M u j d (by rcases kv with e|e|e<;>exact o e (by decide)) _ (.inr rfl)
  |_=>exact go _ 8 (.inr ⟨by decide,rfl⟩) λW u _ d=>ly W Y M u j d (o kv (by decide)) _ (.inr rfl)
 .cases v with
  |empty=>exact go _ 0 (.inl ⟨rfl,.bool true,rfl,rfl⟩) λW u _ d=>dJ W Y M u j d _ _ (.inl ⟨rfl,by rw[kv];rfl⟩)
  |int i=>exact go _ 0 (.inl ⟨rfl,.bool false,rfl,rfl⟩) λW u _ d=>dJ W Y M u j d _ _ (.inl ⟨rfl,F kv (by decide)⟩)
  |proc id=>exact go _ 0 (.inl ⟨rfl,.bool false,rfl,rfl⟩) λW u _ d=>dJ W Y M u j d _ _ (.inl ⟨rfl,by rcases kv with e|e|e<;>exact F e (by decide)⟩)
  |_=>exact go _ 0 (.inl ⟨rfl,.bool false,rfl,rfl⟩) λW u _ d=>dJ W Y M u j d _ _ (.inl ⟨rfl,F kv (by decide)⟩)
 .cases v with
  |pair id y z=>exact go _ 0 (.inl ⟨rfl,.bool true,rfl,rfl⟩) λW u _ d=>dJ W Y M u j d _ _ (.inr<|.inl ⟨rfl,by rw[kv];rfl⟩)
  |int i=>exact go _ 0 (.inl ⟨rfl,.bool false,rfl,rfl⟩) λW u _ d=>dJ W Y M u j d _ _ (.inr<|.inl ⟨rfl,o kv (by decide)⟩)
  |proc id=>exact go _ 0 (.inl ⟨rfl,.bool false,rfl,rfl⟩) λW u _ d=>dJ W Y M u j d _ _ (.inr<|.inl ⟨rfl,by rcases kv with e|e|e<;>exact o e (by decide)⟩)
  |_=>exact go _ 0 (.inl ⟨rfl,.bool false,rfl,rfl⟩) λW u _ d=>dJ W Y M u j d _ _ (.inr<|.inl ⟨rfl,o kv (by decide)⟩)
 .cases v with
  |bool b=>
   have U:j=cQ 2 (if b then 1 else 0):=D;refine go _ 0 (.inl ⟨rfl,.bool (cj (.bool b) (.bool false)),rfl,?_⟩) λW u _ d=>dJ W Y M u j d _ _ (.inr<|.inr<|.inl ⟨rfl,by rw[kv];rfl,rfl⟩);rw[U];cases b<;>rfl
  |int i=>exact go _ 0 (.inl ⟨rfl,.bool false,rfl,rfl⟩) λW u _ d=>dJ W Y M u j d _ _ (.inr<|.inr<|.inr ⟨rfl,h2 kv (by decide),rfl⟩)
  |proc id=>exact go _ 0 (.inl ⟨rfl,.bool false,rfl,rfl⟩) λW u _ d=>dJ W Y M u j d _ _ (.inr<|.inr<|.inr ⟨rfl,by rcases kv with e|e|e<;>exact h2 e (by decide),rfl⟩)
  |_=>exact go _ 0 (.inl ⟨rfl,.bool false,rfl,rfl⟩) λW u _ d=>dJ W Y M u j d _ _ (.inr<|.inr<|.inr ⟨rfl,h2 kv (by decide),rfl⟩)
theorem P1{w:aa}(h:RC B w Y ow mo mf M fx m x)(D:aI w M m)(I:GX z vs x)(q:m.made=(made:Int))(t:made<=100000)(r:x.md=.app p a)(j:a.length<=1001)(o:nI fx m x){c:Vc}{l:List Vc}(J:LR w Y m.args (c::l))(hp:RX w mo p c)(hR:fU w mo a l)(hid:p=.proc 22)(L:c=⟨7,0,⟨#[101,113,63]⟩,none,none⟩)(b:a.length=2):cl 113 #[Pt M] w (cA (lf B w Y ow M fx x n made)):=by
 obtain⟨u,v,A,C,rfl,rfl,E,F⟩:=C8 hR b;refine jd h D I q t r j o J hp hR (k:=11) rfl hid L (by decide) rfl (vP (ci A C)) 0 (.inl ⟨rfl,.bool (cj u v),rfl,by rw[<-Nj h.inj E F];rfl⟩) λW u2 y K d=> ?_;have k:=h.kr D y;obtain⟨N,G⟩:=RX.pt (T5 k (TV _) _ _ E);obtain⟨O,H⟩:=RX.pt (T5 k (TV _) _ _ F);exact JO W Y M u2 A C d N O G H
theorem tY.inj{p q:tY}(h:p.c=q.c):p=q:=by
 obtain⟨⟨b,d,j⟩,⟨b1,b2,t⟩,c1,y,C⟩:=p;obtain⟨⟨l,o,r⟩,⟨u,v,w⟩,c2,A,e2⟩:=q;simp[tY.c] at h;simp[h]
theorem b9.inj{w:aa}{p q:tY}(h:b9 w g p)(k:b9 w g q):p=q:=by
 unfold b9 at h k;rw[h] at k;injection k with k;injection k with k;exact tY.inj k
theorem P0{w:aa}(h:RC B w Y ow mo mf M fx m x)(b:aI w M m)(W:GX z vs x)(E:m.made=(made:Int))(S:made<=100000)(u:x.md=.app p a)(O:a.length<=1001)(o:nI fx m x){c:Vc}{l:List Vc}(N:LR w Y m.args (c::l))(hp:RX w mo p c)(hR:fU w mo a l)(F:m.mode=3)(hid:p=.proc 26)(P:c=⟨7,0,⟨#[99,97,108,108,47,99,99]⟩,none,none⟩)(t:a.length=1):cl 113 #[Pt M] w (cA (lf B w Y ow M fx x n made)):=by
 obtain⟨v,K,rfl,rfl,U⟩:=wU hR t;refine(MX w Y M m c K b N (h.yM b) (by omega) P).mono ?_;rintro e w' ⟨rfl,G,⟨X,un,Z⟩,A,D,y,d,I⟩;have k:=h.kr b I;have H:mo (2 *x.obs.length)=none:=by
  cases e:mo (2 *x.obs.length) with
  |none=>rfl
  |some V=>exact absurd (h.mdm _ _ e).2 (by omega)
 have J:=fS mo _ G H;have r:=iU.ak k J (TV _) (h.sW b I) _ _ h.ch;obtain⟨h1,Q,_⟩:=h.obj b I _ d {x with md:=.app v [.proc (2 *x.obs.length)],obs:=x.obs++[some (.kont x.ch x.fs)]} ⟨rfl,rfl,h.st.1,h.st.2⟩ rfl G A (ai D) (some (.kont x.ch x.fs)) ⟨rfl,rfl,rfl⟩ (λq T=>by
  cases T;exact⟨_,D,rfl,r,o⟩) r h.la
 have ho:=h.o1.1;obtain⟨⟨va,vn,vc⟩,L,C⟩:=y.lr (Y:=Y) (λj R _=>h.yb b j R);cases L;exact⟨rfl,Y,ow,Q,.inr (.inl ⟨_,0,kc _,oB u (by rw[hid,nR (k:=13) h.o1.2 (by decide) rfl];rfl),_,_,_,d,h1,⟨F,by simp,o,_,C,T5 k J _ _ U,.inr ⟨by omega,by omega,G,_,ey _ _ _,D,rfl⟩,trivial⟩,ia u E⟩)⟩
theorem Ey{w:aa}(h:RC B w Y ow mo mf M fx m x)(A:aI w M m)(D:GX z vs x)(r:m.made=(made:Int))(v:made<=100000)(t:x.md=.app p a)(o:a.length<=1001)(q:nI fx m x){c:Vc}{l:List Vc}(y:LR w Y m.args (c::l))(hp:RX w mo p c)(hR:fU w mo a l)(J:m.mode=3)(C:aP[k]? =some s)(hid:p=.proc (2 *k))(E:c=⟨7,0,⟨s.toArray⟩,none,none⟩):cl 113 #[Pt M] w (cA (lf B w Y ow M fx x n made)):=by
 have K:=ej C;by_cases d:a.length=eD k
 .have hb:∀(f:Int->Int->Bool) (i j:Int),RX w mo (.bool (f i j)) (vP (f i j)):=λ_ _ _=>rfl;have H:k=0\/k=1\/k=2\/k=3\/k=4\/k=5\/(k=6\/k=7\/k=8\/k=9\/k=10)\/k=11\/k=12\/k=13:=by omega
  rcases H with rfl|rfl|rfl|rfl|rfl|rfl|I|rfl|rfl|rfl
  .cases C;exact mF h A D r v t o q y hp hR rfl hid E (by omega) d _ (λ_ _=>rfl) (λi j=>cQ 1 (wrap64 (i+j))) (λi j=>De _) (λW u a b y F hb=>xk W Y M u a b y F hb _ _ (.inl ⟨rfl,rfl⟩)) (.inl rfl)
  .cases C;exact mF h A D r v t o q y hp hR rfl hid E (by omega) d _ (λ_ _=>rfl) (λi j=>cQ 1 (wrap64 (i-j))) (λi j=>De _) (λW u a b y F hb=>xk W Y M u a b y F hb _ _ (.inr<|.inl ⟨rfl,rfl⟩)) (.inr<|.inl rfl)
  .cases C;exact mF h A D r v t o q y hp hR rfl hid E (by omega) d _ (λ_ _=>rfl) (λi j=>cQ 1 (wrap64 (i *j))) (λi j=>De _) (λW u a b y F hb=>xk W Y M u a b y F hb _ _ (.inr<|.inr ⟨rfl,rfl⟩)) (.inr<|.inr<|.inl rfl)
  .cases C;exact mF h A D r v t o q y hp hR rfl hid E (by omega) d _ (λ_ _=>rfl) (λi j=>vP (decide (i<j))) (λi j=>rfl) (λW u a b y F hb=>An W Y M u a b y F hb _ _ (.inl ⟨rfl,rfl⟩)) (.inr<|.inr<|.inr<|.inl rfl)
  .cases C;exact mF h A D r v t o q y hp hR rfl hid E (by omega) d _ (λ_ _=>rfl) (λi j=>vP (i==j)) (λi j=>rfl) (λW u a b y F hb=>An W Y M u a b y F hb _ _ (.inr ⟨rfl,rfl⟩)) (.inr<|.inr<|.inr<|.inr rfl)
  .cases C;exact K9 h A D r v t o q y hp hR hid E d
  .exact Oj h A D r v t o q y hp hR C hid E I d
  .cases C;exact P1 h A D r v t o q y hp hR hid E d
  .cases C;exact Ld h A D r v t o q y hp hR hid E d
  .cases C;exact P0 h A D r v t o q y hp hR J hid E d
 .refine(Ae w Y M m c l A y (h.yM A) (by rw[hR.len'];exact o) (by omega) k s C E (by rw[hR.len'];exact d)).mono λe w' G=>mE h A D r v t o q y hp hR ?_ G;rw[hid];simp only[dN,sq];rw[fN (by omega),show 2 *k/2=k by omega,h.o1.2 k K];simp only[DD];rw[fb d]
theorem Lf{w:aa}(h:RC B w Y ow mo mf M fx m x)(d:aI w M m)(J:GX z vs x)(r:m.made=(made:Int))(D:made<=100000)(j:x.md=.app p a)(o:a.length<=1001)(A:nI fx m x){c:Vc}{l:List Vc}(t:LR w Y m.args (c::l))(hp:RX w mo p c)(hR:fU w mo a l)(G:c=⟨8,0,⟨#[]⟩,none,eb g⟩)(F:b9 w g pc){ch:List XK}(K:NI w Y mo mf fx pc (.kont ch fs))(H:dN x p a=DD x a (.kont ch fs)):cl 113 #[Pt M] w (cA (lf B w Y ow M fx x n made)):=by
 by_cases b:a.length=1
 .obtain⟨v,I,rfl,rfl,L⟩:=wU hR b;obtain⟨_,C,q⟩:=K;refine(Jz w Y M m c I d t (h.yM d) (by omega) g pc G F).mono ?_;rintro e w' ⟨rfl,u,E⟩;have k:=h.kr d E;exact⟨rfl,h.arm d E _ u {x with md:=.back v,ch:=ch,fs:=fs} 0 (kc _) (oB j (by rw[H];rfl)) ⟨rfl,rfl,h.st.1,h.st.2⟩ rfl ⟨rfl,rfl,rfl⟩ (ia j r) (iU.ak k (TV _) (TV _) (h.sW d E) _ _ C) h.la ⟨rfl,T5 k (TV _) _ _ L,q⟩⟩
 .refine(Af w Y M m c l d t (h.yM d) (by rw[hR.len'];exact o) (by omega) g pc G F (by rw[hR.len'];exact b)).mono λe w' y=>mE h d J r D j o A t hp hR ?_ y;rw[H];unfold DD
  match a,b with
  |[],_=>rfl
  |_::_::_,_=>rfl
theorem Oi{w:aa}(h:RC B w Y ow mo mf M fx m x)(u:aI w M m)(hG:GX z vs x)(E:m.made=(made:Int))(hl:made<=100000)(A:x.md=.app p a)(h8:a.length<=1001)(N:nI fx m x){c:Vc}{l:List Vc}(hL:LR w Y m.args (c::l))(hp:RX w mo p c)(hR:fU w mo a l)(hc:c=⟨6,0,⟨#[]⟩,none,eb g⟩)(hP:b9 w g pc){b:X}(hX:NI w Y mo mf fx pc (.clo xs b f))(hs:dN x p a=DD x a (.clo xs b f)):cl 113 #[Pt M] w (cA (lf B w Y ow M fx x n made)):=by
 obtain⟨hN,h6,hf,d,bs,V,J,h9,hB⟩:=hX;have hi:=hR.len';by_cases y:a.length=xs.length
 .have R:dG x=.ok {x with md:=.ev b,frs:=x.frs++[⟨xs,a,some f⟩],fr:=x.frs.length}:=by
   unfold dG;rw[A];show dN x p a=_;rw[hs];simp only[DD];rw[fN y]
  have ha:f<x.frs.length:=by obtain⟨gf,h1,_⟩:=hf;exact h.fdm _ _ h1
  have K:=h.yM u;have HC:∀(w1:aa) (F:Nat) (fc:Fc),aB (λk=>k=M) w w1->aI w1 M {m with made:=m.made+1}->w.heap.size<=F->sX w1 w.heap.size F fc xs l->fc.up=pc.fr->(∀k,(Value.slice fc.names.a fc.names.n fc.names.c).ownBlock=some k->w.heap.size<=k)->(∀k,(Value.slice fc.vals.a fc.vals.n fc.vals.c).ownBlock=some k->w.heap.size<=k)->cl 184 #[Pt M,.slice pc.body.a pc.body.n pc.body.c,Pt F] w1 (cA (lf B w Y ow M fx x n made)):=λw1 F fc S U hq hF ho W Z=>by
   have hr:=u.lt;have hn:mf x.frs.length=none:=by
    cases e:mf x.frs.length with
    |none=>rfl
    |some g'=>exact absurd (h.fdm _ _ e) (by omega)
   have D:=fS mf x.frs.length F hn;have new:∀(w':aa) (o:aB (λk=>k=M) w1 w') (C:Rm) (r:aI w' M C) (hm:C.fo=m.fo/\C.gl=m.gl/\C.st=m.st/\C.er=m.er) (Q:C.out=m.out/\C.last=m.last) (H:XS) (T:H.obs=x.obs/\H.out=x.out/\H.frs=x.frs++[⟨xs,a,some f⟩]/\H.last=x.last) (L:∀v,KR w w'->Gn w Y w' v->iU w' v mo (gU mf x.frs.length F) C.ch H.ch),∃v ow',RC B w' v ow' mo (gU mf x.frs.length F) M fx C H/\Gw Y ow w v ow' w':=λw' o C r hm Q H T L=>by
    have t:=S.trans o (λ_ _ h=>h);have h0:sX w' 0 F fc xs l:=⟨o.at hF.fc (by omega),ba (aq hF.nr o λb hb e=>by have:=W b hb;omega) (kc _),ba (aq hF.vr o λb hb e=>by have:=Z b hb;omega) (kc _),hF.ln⟩;refine h.nh u x.frs.length F fc l ⟨xs,a,some f⟩ (gU mf x.frs.length F) D (ey _ _ _) (t.mono λk e=>.inl e) C r ⟨hm.1,hm.2.1,by rw[hm.2.2.1];exact h.st.1,by rw[hm.2.2.2];exact h.st.2⟩ Q.1 H ⟨T.1,T.2.1⟩ (λj q P=> ?_) h0 (λk=>fU.ak k (TV _) _ _ hR) (λk hk=> ?_) ⟨ha,by rw[ho];exact hf.ak D⟩ L (by rw[Q.2,T.2.2.2];exact h.la) (λi g' O=> ?_)
    .rw[T.2.2.1] at P;rcases sb j x.frs.length with hlt|he
     .rw[o5 hlt] at P;exact .inl ⟨P,by omega⟩
     .rw[s7 he] at P;have hh:j=x.frs.length:=by have:=cy P;simp at this;omega
      subst hh;rw[SQ] at P;exact .inr ⟨rfl,by simpa using P.symm⟩
    .rcases hk with e|e|e
     .exact .inr (by omega)
     .exact .inr (W k e)
     .exact .inr (Z k e)
    .rw[T.2.2.1,ga,Ix];unfold gU at O;split at O
     .omega
     .have:=h.fdm i g' O;omega
   have I:FP (gU mf x.frs.length F) x.frs.length (eb F):=⟨F,ey _ _ _,rfl⟩;cases hB with
   |one _ c1 _ h7=>
    refine(sE w1 M _ Y pc.body c1 (eb F) U (J.mi K S)).mono ?_;rintro e w' ⟨rfl,r,o⟩;have t:=S.trans o (λ_ _ h=>h);obtain⟨v,ow',h1,hg⟩:=new w' o _ r ⟨rfl,rfl,rfl,rfl⟩ ⟨rfl,rfl⟩ {x with md:=.ev b,frs:=x.frs++[⟨xs,a,some f⟩],fr:=x.frs.length} ⟨rfl,rfl,rfl,rfl⟩ (λv k hy=>iU.ak k (TV _) D hy _ _ h.ch);exact⟨rfl,v,ow',hg,.inr (.inl ⟨_,d,V,.inl R,mo,_,_,r,h1,⟨rfl,V,h7.ak (h.kr u t) (TV _),I,N⟩,ia A E⟩)⟩
   |seq _ c1 c2 cs e1 e2 es h1 h2 h3=>
    refine(oP w1 M _ Y pc.body c1 c2 cs (eb F) x.ch.length U (J.mi K S) K (h.ch.deep.upd u S)).mono ?_;rintro e w' ⟨rfl,hp⟩;refine⟨rfl,?_⟩;by_cases G:x.ch.length<200
    .obtain⟨g2,ht,h4,r,o⟩:=hp.ok G;have t:=S.trans o (λ_ _ h=>h);have k3:=h.kr u t;obtain⟨v,ow',hC,hg⟩:=new w' o _ r ⟨rfl,rfl,rfl,rfl⟩ ⟨rfl,rfl⟩ {x with md:=.ev e1,frs:=x.frs++[⟨xs,a,some f⟩],fr:=x.frs.length,ch:=.rest x.frs.length (e2::es)::x.ch} ⟨rfl,rfl,rfl,rfl⟩ (λv k hy=>⟨g2,_,rfl,h4,by simp,⟨rfl,I,d,c1,c2::cs,V,J.ak hy,by simp,by simp at h9 ⊢;omega,.cons _ _ _ _ _ (h2.ak k (TV _)) (h3.ak k (TV _))⟩,iU.ak k (TV _) D hy _ _ h.ch⟩);exact⟨v,ow',hg,.inr (.inl ⟨_,d,V,.inr ⟨_,R,rfl,by unfold dG;simp only[Gq,iB];rw[fb (by omega)]⟩,mo,_,_,r,hC,⟨rfl,V,h1.ak k3 (TV _),I,N⟩,ia A E⟩)⟩
    .unfold ft at hp;rw[fb G] at hp;have t:=S.trans hp.2 (λ_ _ h=>h);have L:=hG.ch;exact h.fail u t _ hp.1 9 x.ch.length (.inr ⟨_,R,rfl,by unfold dG;simp only[Gq,iB];rw[fN (by omega)];rfl⟩) ⟨rfl,rfl,rfl⟩ (h.ch.deep.upd u t) (ia A E)
  cases xs with
  |nil=>exact FC w Y M m c l u hL (h.yM u) (by omega) (by omega) g pc _ [] hc hP hN (by omega) _ HC rfl (h6 rfl)
  |cons s xs=>exact FD w Y M m c l u hL (h.yM u) (by omega) (by omega) g pc _ _ hc hP hN (by omega) _ HC (by simp)
 .refine(Ad w Y M m c l u hL (h.yM u) (by omega) (by omega) g pc hc hP (by rw[hi,hN.1];exact y)).mono λe w' h5=>mE h u hG E hl A h8 N hL hp hR ?_ h5;rw[hs];simp only[DD];rw[fb y]
theorem Ol{w:aa}(h:RC B w Y ow mo mf M fx m x)(v:aI w M m)(A:GX z vs x)(r:m.made=(made:Int))(t:made<=100000)(j:x.md=.app p a)(d:a.length<=1001)(o:nI fx m x)(K:m.mode=3)(C:LR w Y m.args cs)(E:fU w mo (p::a) cs):cl 113 #[Pt M] w (cA (lf B w Y ow M fx x n made)):=by
 match cs,E with
 |[],E=>exact E.elim
 |c::l,⟨hp,hR⟩=>
  have kp:=RX.kd hp;have bad:(∀k:Int,k=6\/k=7\/k=8->c.k≠k)->dN x p a=jl x 6->cl 113 #[Pt M] w (cA (lf B w Y ow M fx x n made)):=λJ y=>(Jy w Y M m c l v C (h.yM v) (by rw[hR.len'];exact d) (by omega) (by simpa using J 6 (by decide)) (by simpa using J 7 (by decide)) (by simpa using J 8 (by decide))).mono λe w' F=>mE h v A r t j d o C hp hR y F;cases p with
  |proc id=>
   have L:=hp;rcases L with⟨k,s,hid,y,D⟩|⟨Q,H,g,pc,u,G,D⟩
   .subst hid;exact Ey h v A r t j d o C hp hR K y rfl D
   .have P:nQ x.obs (.proc id):=by
     obtain⟨_,_,s,R⟩:=A;have:=R.md;rw[j] at this;exact this.2.1
    obtain⟨_,q,O⟩:=P;have h2:2 *(id/2)=id:=by omega
    obtain⟨T,S,N,e2,e3⟩:=h.ob (id/2) q (h.mdm (id/2) g (by rw[h2];exact u)).1 O;rw[h2,u] at N;cases N;obtain rfl:=G.inj e2;have y:dN x (.proc id) a=DD x a q:=by simp only[dN,sq];rw[fN H,O]
    cases q with
    |first k=>exact e3.elim
    |clo xs b f=>exact Oi h v A r t j d o C hp hR (by obtain⟨_,_,⟨_,_,I⟩,_⟩:=e3;rw[D,I];rfl) G e3 y
    |kont ch fs=>exact Lf h v A r t j d o C hp hR (by rw[D,e3.1];rfl) G e3 y
  |_=>exact bad (by rintro k (rfl|rfl|rfl)<;>rw[kp]<;>decide) rfl
end Go.Proofs.YtlobegpjenabaaaGreatDoor
