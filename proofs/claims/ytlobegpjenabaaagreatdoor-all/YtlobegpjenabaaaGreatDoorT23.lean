import Derived.Test.YtlobegpjenabaaaGreatDoorT22
namespace Go.Proofs.YtlobegpjenabaaaGreatDoor
open Go.RowKit Tryz
set_option linter.unusedSimpArgs false
set_option linter.unusedVariables false
set_option maxRecDepth 100000
set_option maxHeartbeats 4000000
variable {p:tY} {g o B cap i n k k':Nat} {T T':bi} {cs:List Vc} {xs:a7} {c':bc} {P r:au} {mo:Nat->Option Nat} {z:ao}
theorem rL:(prog.info? 9).map (λi=>(i.zero,i.size,i.bytes))=some (some (.string ⟨#[]⟩),1,16):=by kernel_rfl
def QJ(w:aa)(ns:List au)(body:Sl)(f:a8)(e:bo)(w':aa):Prop:=
 ∃G u,e=.returned (.agg (⟨6,0,⟨#[]⟩,none,eb G⟩:Vc).c)/\w.heap.size<=G/\b9 w' G ⟨u,body,f,none,0⟩/\w'.ownsRow w.heap.size 9 1 (.slice u.a u.n u.c) ns.length (ns.map bO)/\(ns.length=0->u=⟨none,0,0⟩)/\Below w.heap.size w w'
def PB(w3:aa)(G:Nat)(ns:List au)(body:Sl)(f:a8)(k:Nat)(wr:aa):Prop:=
 ∃u:Sl,b9 wr G ⟨u,body,f,none,0⟩/\wr.ownsRow w3.heap.size 9 1 (.slice u.a u.n u.c) k ((ns.take k).map bO)/\(k=0->u=⟨none,0,0⟩)/\aB (λj=>j=G) w3 wr
theorem b9.set{w:aa}{G:Nat}(h:b9 w G p)(u:Sl):b9 (w.setCell (dq G 0) (.slice u.a u.n u.c)) G {p with names:=u}:=by
 unfold b9 at *;rw[TH h]
 congr 1
theorem CI(w:aa)(N:Vc)(ns:List au)(body:Sl)(f:a8)(h:eC w N (ns.map dy))(hn:ns.length<=1000):cl 183 #[.agg N.c,.slice body.a body.n body.c,.pointer f] w (QJ w ns body f):=by
 obtain⟨i0,hi,h1,h2,K⟩:=sv rL;have HI:=ag (ei hi (ei h1 (ei h2 K)));have h4:Hid (∀W,Below w.heap.size w W->cl 66 #[.agg N.c] W (PM W (ns.map dy))):=λW hb=>dM _ N W (T4 (T6 hb) _ _ h) (by rw[ta];exact hn);have mixed:prog.follows Departure.mixedOrders=true:=by kernel_rfl
 clear hi h1 h2 K h;unfold Vc.c at *;go_enter func183,ntmps183;go_wp2_with fail;refine(h4.out _ (((fL _ w).alloc (ew _) _).alloc (by simp) _)).mono ?_;rintro e l ⟨v,rfl,E,D⟩;have Z:=D.size;obtain⟨u,rfl,hL⟩:=E.lr (Y:=λ_=>False) (λ_ _ _ h=>h);have R:l.heap[w.heap.size+1]? =some (.cells (cQ 0 0).c 96):=by
  rw[D.block (w.heap.size+1) (by simp)];have:=fK (w.alloc (.cells N.c 96)) (.cells (cQ 0 0).c 96);rw[show(w.alloc (.cells N.c 96)).heap.size=w.heap.size+1 by simp] at this;exact this
 have V:Below w.heap.size w l:=(((fL _ w).alloc (ew _) _).alloc (by simp) _).trans (D.mono (by simp;omega));have K:w.heap.size+2<=l.heap.size:=by have:=Z;simp at this;omega
 have G:u.n=ns.length:=by have:=hL.1;rw[ta] at this;exact this
 have HL:=ag hL;have h8:=ag R;have h3:=ag V;have hh:=ag G;obtain⟨ua,un,uc⟩:=u;simp only at G;subst G;clear E D Z hL R V;go_wp2;obtain⟨w3,x⟩:∃w3,w3=l.alloc (Obj.cells #[.slice none 0 0,.slice body.a body.n body.c,.pointer f,.pointer none,Jn 0] 307):=⟨_,rfl⟩;rw[<-x];have h6:Hid (PB w3 l.heap.size ns body f 0 w3):=⟨⟨none,0,0⟩,by unfold b9;rw[x];exact fK _ _,oh _ _ _ _,λ_=>rfl,TU _ _⟩;have q:w3.heap.size=l.heap.size+1:=by rw[x];simp
 have F:=ag (show Below l.heap.size l w3 by rw[x];exact aR _ _);have C:=ag q;clear x q
 go_loopw [10] (λi wr=>∃k:Nat,k<=ns.length/\i=Jn k/\PB w3 l.heap.size ns body f k wr) (λi _=>ns.length-(intOf i).toNat)
 case atStart=>exact⟨0,kc _,rfl,h6.out⟩
 case round=>
  obtain⟨k,hk,rfl,u,H,b,I,A⟩:=hrel;have q:=C.out;have ho:=A.size;by_cases hlt:k<ns.length
  .obtain⟨gl,L,X,ha,_,_,_,l2,_,_⟩:=HL.out.at (i:=k) (v:=dy ns[k]) (by simp[hlt]);simp only at X;subst X;have hd:wr.cell? (dq gl (L+k *5+2))=some (.string ⟨ns[k].toArray⟩):=by
    have e1:w3.cell? (dq gl (L+k *5+2))=l.cell? (dq gl (L+k *5+2)):=F.out.cell (p:=(dq gl (L+k *5+2))) ha;have e2:wr.cell? (dq gl (L+k *5+2))=w3.cell? (dq gl (L+k *5+2)):=xo (a:=(dq gl (L+k *5+2))) (A.block gl (by omega) (by omega));rw[e2,e1];exact l2
   obtain⟨y,hy⟩:∃y:ao,y=⟨ns[k].toArray⟩:=⟨_,rfl⟩;rw[<-hy] at hd;have p0:=kd H 0 (.slice u.a u.n u.c);have pf:=ah H 0;have hl:=ai H;have h0:u.n=k:=by
    have:=dg b;exact this
   obtain⟨ua2,un2,uc2⟩:=u;simp only at h0 p0 b;subst h0;clear I;have HP:=ag H;have M:=ag b;have HU:=ag A;have HY:=ag hy;have i1:(0:Int)<=(un2:Int):=by omega
   have i2:(un2:Int)<(ns.length:Int):=by omega
   have hm:ns.length<=1000:=hn;clear H b A l2 hy q;go_wp2;go_region_law (refine R2 _ rfl (.tmp 30) (.tmp 36) 26 rfl w3.heap.size 9 i0 (.string ⟨#[]⟩) 1 16 underlying26 HI.out.1 HI.out.2.1 HI.out.2.2.1 HI.out.2.2.2 rfl (by decide) (.slice ua2 un2 uc2) un2 ((ns.take un2).map bO) (by simp[Act.eval,Act.put]) (M.out.alloc _) (dq wr.heap.size 0) 1 1 [.string y] (by simp[Act.eval,Act.put]) rfl (PL (fK _ _)) (by intro u A;simp at A;subst A;rfl) (by decide) (by unfold maxLen;omega) (by omega) (by simp;omega) (wr.heap.size+1) (by simp) ?_;intro g7 cap7 w7 t m U hf;have Q:=ag (T2 (((TU (λk=>(Value.slice ua2 un2 uc2).ownBlock=some k) wr).alloc _).drew) m (λk hk _=>hk));have O:=ag t;have s:=Q.out.at HP.out (λh=>by have:=(ar M.out h).1;have:=C.out;omega);have q0:Cl w7 l.heap.size 0 (.slice ua2 un2 uc2):=ae s 0;have qf:=ah s 0;have he:=ai s;have h7:=ag s;clear t m U s)
   all_goals
    go_wp2;go_roundw
    case rel=>
     refine⟨un2+1,by omega,by go_num,⟨eb g7,un2+1,cap7⟩,b9.set (p:=⟨⟨ua2,un2,uc2⟩,body,f,none,0⟩) h7.out ⟨eb g7,un2+1,cap7⟩,?_,λh=>absurd h (by omega),?_⟩
     .rw[mn hlt,s8];have:=aq (w':=w7.setCell (dq l.heap.size 0) (.slice (eb g7) (un2+1) cap7)) O.out (S:=λj=>j=l.heap.size) ((TU _ w7).aY) (λg hg e=>by have:=(ar O.out hg).1;have:=C.out;omega);rw[HY.out] at this;exact this
     .exact((HU.out.trans Q.out (λj hj h=>by have:=(ar M.out h).1;omega)).aY)
    case measure=>simp[intOf];omega
  .have hc:k=ns.length:=by omega
   subst hc;rw[xp] at b;have h5:=ag I;clear I;have d:wr.heap[w.heap.size+1]? =some (.cells (cQ 0 0).c 96):=by
    rw[A.block _ (by omega) (by omega),F.out.block _ (by omega)];exact h8.out
   have r0:=kd d 0 (Jn 0);have r1:=kd d 1 (Jn 0);have r2:=kd d 2 (.string ⟨#[]⟩);have r3:=kd d 3 (.pointer none);have r4:=kd d 4 (.pointer none);have rf:=ah d;have h9:=ag d;have HP:=ag H;have M:=ag b;have HU:=ag A;clear d H b A q;go_wp2;refine ff (R3 rfl _ _ (w.heap.size+1) 96 (⟨6,0,⟨#[]⟩,none,eb l.heap.size⟩:Vc).c (0,0) _ rfl (bA (Jn 6) (Jn 0) (.string ⟨#[]⟩) (.pointer none) (Pt l.heap.size) h9.out) underlying96 rfl (by kernel_rfl)) rfl ?_;have J:=cU wr (w.heap.size+1) (Jn 6) (Jn 0) (.string ⟨#[]⟩) (.pointer none) (Pt l.heap.size);have q:=C.out;refine⟨l.heap.size,u,rfl,by omega,J.at HP.out (by omega),?_,h5.out,?_⟩
   .exact ba (aq M.out J (λg hg e=>by have:=(ar M.out hg).1;omega)) (by omega)
   .have q1:Below w.heap.size w w3:=h3.out.trans (F.out.mono (by omega));have q2:Below w.heap.size w wr:=q1.trans (HU.out.below (by omega) (λk hk=>by omega));exact q2.trans (J.below (by omega) (λk hk=>by omega))
def sH(w:aa)(g o:Nat)(v:Vc):aa:=((((w.setCell ⟨g,o,none⟩ (.int .i64 v.k)).setCell ⟨g,o+1,none⟩ (.int .i64 v.n)).setCell ⟨g,o+2,none⟩ (.string v.s)).setCell ⟨g,o+3,none⟩ (.pointer v.p)).setCell ⟨g,o+4,none⟩ (.pointer v.f)
theorem ni(w:aa)(g o:Nat)(v:Vc):aB (λk=>k=g) w (sH w g o v):=(TU _ _).aY.aY.aY.aY.aY
theorem F1{w:aa}{v:Vc}{c:bc}(h:w.heap[g]? =some (.cells c T)):(sH w g o v).heap[g]? =some (Obj.cells (((((c.setIfInBounds o (Jn v.k)).setIfInBounds (o+1) (Jn v.n)).setIfInBounds (o+2) (.string v.s)).setIfInBounds (o+3) (.pointer v.p)).setIfInBounds (o+4) (.pointer v.f)) T (0,0)):=
 TH (TH (TH (TH (TH h))))
theorem uq:∀(cs:List Vc) (i:Nat) (v:Vc),i<cs.length->bw (cs.set i v)=(((((bw cs).set (i *5) (Jn v.k)).set (i *5+1) (Jn v.n)).set (i *5+2) (.string v.s)).set (i *5+3) (.pointer v.p)).set (i *5+4) (.pointer v.f)
 |[],i,v,h=>by simp at h
 |c::r,0,v,_=>by simp[bw,Vc.c]
 |c::r,i+1,v,h=>by
  have a:=uq r i v (by simpa using h);simp only[Sm,bw,Ps] at a ⊢;have b:c.c.toList.length=5:=by simp[Vc.c]
  rw[a];rw[show(i+1) *5=c.c.toList.length+i *5 by rw[b];omega];simp only[RU];rw[R1 _ _ (by omega),R1 _ _ (by omega),R1 _ _ (by omega),R1 _ _ (by omega),R1 _ _ (by omega)];simp[Nat.add_sub_cancel_left]
theorem Ao{w:aa}{v:Vc}(h:w.ownsRow B 96 5 (.slice (eb g) cs.length cap) cs.length (bw cs))(hi:i<cs.length):(sH w g (i *5) v).ownsRow B 96 5 (.slice (eb g) cs.length cap) cs.length (bw (cs.set i v)):=by
 rcases h.2 with⟨a,_⟩|⟨e,cap',d,a,hb,c,h1,h2,h3,b⟩
 .cases a
 .cases a;refine⟨by rw[eX,s5],.inr ⟨g,cap,_,rfl,hb,F1 c,h1,h2,by simpa using h3,?_⟩⟩;rw[uq cs i v hi,<-b];simp only[RY,S0]
def Ot(ns:List au)(s:au):List au:=match dE ns s with
 |some _=>ns
 |none=>ns++[s]
def Hb{α:Type}(ns:List au)(vs:List α)(s:au)(v:α):List α:=match dE ns s with
 |some i=>vs.set i v
 |none=>vs++[v]
structure sX(w:aa)(B g:Nat)(f:Fc)(ns:List au)(vcs:List Vc):Prop where
 fc:fp w g f
 nr:w.ownsRow B 9 1 (.slice f.names.a f.names.n f.names.c) ns.length (ns.map bO)
 vr:w.ownsRow B 96 5 (.slice f.vals.a f.vals.n f.vals.c) vcs.length (bw vcs)
 ln:ns.length=vcs.length
def Gt(M g:Nat)(f:Fc)(k:Nat):Prop:=k=M\/k=g\/(Value.slice f.names.a f.names.n f.names.c).ownBlock=some k\/(Value.slice f.vals.a f.vals.n f.vals.c).ownBlock=some k
def A1(w:aa)(B M g:Nat)(m:Rm)(f:Fc)(ns:List au)(vcs:List Vc)(s:au)(w':aa):Prop:=
 ∃b:Fc,sX w' B g b (Ot ns s) (Hb ns vcs s m.v)/\b.up=f.up/\aI w' M {m with mode:=2,v:=cQ 9 0}/\aB (Gt M g f) w w'/\(∀k,(Value.slice b.names.a b.names.n b.names.c).ownBlock=some k->(Value.slice f.names.a f.names.n f.names.c).ownBlock=some k\/w.heap.size<=k)/\(∀k,(Value.slice b.vals.a b.vals.n b.vals.c).ownBlock=some k->(Value.slice f.vals.a f.vals.n f.vals.c).ownBlock=some k\/w.heap.size<=k)
theorem bt{w:aa}{T sz:Nat}{v:al}(h:w.ownsRow B T sz v n xs)(a:v.ownBlock=some k):∃c,w.heap[k]? =some (Obj.cells c T (0,0)):=by
 rcases h.2 with⟨b,_⟩|⟨f,cap,d,b,hb,e,r⟩
 .rw[b] at a;cases a
 .rw[b] at a;cases a;exact⟨d,e⟩
theorem bB{w:aa}{c:bc}(h:w.heap[k]? =some (.cells c T))(a:w.heap[k']? =some (.cells c' T'))(b:T≠T'):k≠k':=by
 rintro rfl;rw[h] at a;injection a with h1;injection h1 with h2 h3;exact b h3
theorem JA(w:aa)(B M g:Nat)(m:Rm)(f:Fc)(ns:List au)(vcs:List Vc)(s:au)(h:aI w M m)(hF:sX w B g f ns vcs)(hB:B<=w.heap.size)(Hl:ns.length<=1000000):cl 187 #[Pt M,Pt g,.string ⟨s.toArray⟩] w (cA (A1 w B M g m f ns vcs s)):=by
 obtain⟨y,hy⟩:∃y:ao,y=⟨s.toArray⟩:=⟨_,rfl⟩;rw[<-hy];have HY:=ag hy;have Hg:=h.lt;have Hi:=ai hF.fc;have h7:g≠M:=bB hF.fc h (by decide);have c0:=kd hF.fc 0 (.slice f.names.a f.names.n f.names.c);have c1:=kd hF.fc 1 (.slice f.vals.a f.vals.n f.vals.c);have nn:f.names.n=ns.length:=dg hF.nr;have nv:f.vals.n=ns.length:=by have:=dg hF.vr;rw[hF.ln];exact this
 rw[nn] at c0;rw[nv] at c1;have k5:=kd h 5 (Jn m.v.k);have k6:=kd h 6 (Jn m.v.n);have k7:=kd h 7 (.string m.v.s);have k8:=kd h 8 (.pointer m.v.p);have k9:=kd h 9 (.pointer m.v.f);have HH:=ag h;have t:=ag hF;have A:=ag (ei nn nv);clear h hF hy nn nv;go_enter func187,ntmps187;go_wp2
 go_loopw [6] (λi wr=>wr=w/\∃k:Nat,k<=ns.length/\i=Jn k/\∀j (x:j<ns.length),j<k->ns[j]≠s) (λi _=>ns.length-(intOf i).toNat)
 case atStart=>exact⟨rfl,0,kc _,rfl,λj _ x=>by omega⟩
 case round=>
  obtain⟨hH,k,hk,rfl,h8⟩:=hrel;obtain rfl:w=wr:=hH.symm;have S:=ag h8;clear h8 hH;by_cases hlt:k<ns.length
  .obtain⟨gn,capn,H5,_,H9,_,_,hA⟩:=db t.out.nr (by omega);injection H5 with e1 e2 e3;rw[e1] at c0;obtain⟨z,hz⟩:∃z:ao,z=⟨ns[k].toArray⟩:=⟨_,rfl⟩;have cn:w.cell? (dq gn k)=some (.string z):=by
    rw[hz];exact hA k _ (by simp[hlt,bO])
   have Hk:(k:Int)<(ns.length:Int):=by omega
   have hs:=ag (Kw hz HY.out);clear hz hA e2 e3;have He:=ag e1;clear e1;cases hss:(z.toList==y.toList) with
   |true=>
    have E:Hid (dE ns s=some k):=uz hlt (by have:=hs.out;rw[hss] at this;simpa using this.symm) (λj x=>S.out j (by omega) x);obtain⟨D,capv,H6,_,Ha,_,_,N⟩:=db t.out.vr (by have:=t.out.ln;omega);injection H6 with v1 v2 v3;rw[v1] at c1;have hb:D≠M:=by
     obtain⟨c,d⟩:=bt t.out.vr (k:=D) (by rw[v1];rfl);exact bB d HH.out (by decide)
    have hD:∃c,w.heap[D]? =some (Obj.cells c 96 (0,0)):=bt t.out.vr (by rw[v1];rfl);obtain⟨cg,hg⟩:=hD;obtain⟨vk,R⟩:∃v,vcs[k]? =some v:=⟨vcs[k]'(by have:=t.out.ln;omega),fA (by have:=t.out.ln;omega)⟩;have s0:Cl w D (k *5) (Jn vk.k):=N _ _ (cC vcs k vk R 0 _ rfl);have s1:Cl w D (k *5+1) (Jn vk.n):=N _ _ (cC vcs k vk R 1 _ rfl);have s2:Cl w D (k *5+2) (.string vk.s):=N _ _ (cC vcs k vk R 2 _ rfl);have s3:Cl w D (k *5+3) (.pointer vk.p):=N _ _ (cC vcs k vk R 3 _ rfl);have s4:Cl w D (k *5+4) (.pointer vk.f):=N _ _ (cC vcs k vk R 4 _ rfl);have sf:=ah hg;have he:=ag (ei v1 v3);have hr:=ag hg;clear N v1 v2 v3 hg R;have Y:aI (sH w D (k *5) m.v).drew M m:=(ni w D (k *5) m.v).drew.at HH.out (λe=>hb e.symm);have hp:=ag (dL (sH w D (k *5) m.v).drew M m (cQ 9 0) Y);simp only[cQ] at hp;clear Y;go_wp2;go_region;go_wp2_with fail;refine hp.out.mono ?_;rintro e w9 ⟨rfl,h1,h2⟩;have HM:=ag (ei h1 h2);clear h1 h2;go_wp2;refine TT ?_;have H2:=(ni w D (k *5) m.v).drew;have hl:aB (λj=>j=D\/j=M) w w9:=(H2.mono (λ_ h=>.inl h)).trans (HM.out.2.mono (λ_ h=>.inr h)) (λ_ _ h=>h);have hC:(Value.slice f.vals.a f.vals.n f.vals.c).ownBlock=some D:=by rw[he.out.1];rfl
    refine⟨rfl,f,⟨?_,?_,?_,?_⟩,rfl,HM.out.1,hl.mono (λj x=> ?_),λk hk=>.inl hk,λk hk=>.inl hk⟩
    .refine hl.at t.out.fc (λe=> ?_);rcases e with e|e
     .exact bB t.out.fc hr.out (by decide) e
     .exact h7 e
    .have:=aq t.out.nr hl (λq l e=>by
      obtain⟨c,d⟩:=bt t.out.nr l;rcases e with e|e
      .exact bB d hr.out (by decide) e
      .exact bB d HH.out (by decide) e)
     unfold Ot;rw[E.out];exact this
    .have hm:=t.out.vr;have h0:=t.out.ln;have hE:=A.out.2;rw[he.out.1] at hm;rw[hE,h0] at hm;have hZ:=Ao (i:=k) (v:=m.v) hm (by omega);have H0:=aq hZ ((TU (λ_=>False) (sH w D (k *5) m.v)).drew) (λ_ _ h=>h);have H1:=aq H0 HM.out.2 (λq l e=>by
      have:D=q:=pb l;exact hb (this.trans e))
     unfold Hb;rw[E.out,he.out.1,hE,h0,s5];exact H1
    .unfold Ot Hb;rw[E.out,s5];exact t.out.ln
    .rcases x with rfl|rfl
     .exact .inr (.inr (.inr hC))
     .exact .inl rfl
   |false=>
    have hP:Hid (ns[k]≠s):=by
     intro e;have:=hs.out;rw[hss,e] at this;simp at this
    go_wp2;go_roundw
    case rel=>
     refine⟨by first|rfl|trivial,k+1,by omega,by go_num,λj x Hj=> ?_⟩;rcases sb j k with h1|h1
     .exact S.out j x h1
     .have:j=k:=by omega
      subst this;exact hP.out
    case measure=>simp[intOf];omega
  .have hV:k=ns.length:=by omega
   subst hV;have E:Hid (dE ns s=none):=uy λi hi=>S.out i hi hi;obtain⟨i0,hi,hL,hM,hN⟩:=sv rL;have HI:=ag (ei hi (ei hL (ei hM hN)));obtain⟨j0,x,hI,hJ,hK⟩:=sv kh;have HJ:=ag (ei x (ei hI (ei hJ hK)));have cf:=ah t.out.fc;have mixed:prog.follows Departure.mixedOrders=true:=by kernel_rfl
   have h5:=ag (show w.ownsRow B 9 1 (.slice f.names.a ns.length f.names.c) ns.length (ns.map bO) by rw[<-A.out.1];have:=t.out.nr;rw[A.out.1] at this ⊢;exact this);clear hi hL hM hN x hI hJ hK;go_wp2_with (at_builtin;refine nl _ rfl (.tmp 42) (.tmp 44) 26 rfl B 9 i0 (.string ⟨#[]⟩) 1 16 underlying26 HI.out.1 HI.out.2.1 HI.out.2.2.1 HI.out.2.2.2 rfl (by decide) _ ns.length (ns.map bO) rfl (h5.out.alloc _) (dq w.heap.size 0) 1 1 [.string y] rfl rfl (PL (fK _ _)) (by intro u hu;simp at hu;subst hu;rfl) (by decide) (by unfold maxLen;omega) (by omega) (by simp;omega) (w.heap.size+1) (by simp) ?_);intro g1 cap1 w1 H J h9 Hc;have O:aB (λk=>(Value.slice f.names.a ns.length f.names.c).ownBlock=some k) w w1:=T2 ((TU _ w).alloc _) J (λk hk _=>hk);have L:fp w1 g f:=O.at t.out.fc (λe=>by
    obtain⟨c,d⟩:=bt h5.out e;exact bB t.out.fc d (by decide) rfl)
   have Y:aI w1 M m:=O.at HH.out (λe=>by
    obtain⟨c,d⟩:=bt h5.out e;exact bB HH.out d (by decide) rfl)
   have hf:=aq t.out.vr O (λq l e=>by
    obtain⟨c,d⟩:=bt h5.out e;obtain⟨c',G⟩:=bt t.out.vr l;exact bB d G (by decide) rfl)
   have Hm:=O.size;obtain⟨I,h6⟩:∃I,I=w1.setCell (dq g 0) (.slice (eb g1) (ns.length+1) cap1):=⟨_,rfl⟩;have Q:aB (λk=>k=g) w1 I:=by rw[h6];exact(TU _ _).aY
   have V:fp I g {f with names:=⟨eb g1,ns.length+1,cap1⟩}:=by
    rw[h6];unfold fp at *;rw[TH L]
    congr 1
   have F:aI I M m:=Q.at Y (λe=>h7 e.symm);have hx:I.ownsRow B 96 5 (.slice f.vals.a ns.length f.vals.c) ns.length (bw vcs):=by
    have:=aq hf Q (λq l e=>by
     obtain⟨c',G⟩:=bt hf l;exact bB G L (by decide) e)
    rw[A.out.2,<-t.out.ln] at this;exact this
   have hv:I.ownsRow B 9 1 (.slice (eb g1) (ns.length+1) cap1) (ns.length+1) (ns.map bO++[.string y]):=aq H Q (λq l e=>by
     obtain⟨c',G⟩:=bt H l;exact bB G L (by decide) e)
   have a0:=kd L 0 (.slice f.names.a f.names.n f.names.c);have af:=ah L;have b1:I.cell? (dq g 1)=some (.slice f.vals.a ns.length f.vals.c):=by
    have:Cl I g 1 (.slice f.vals.a f.vals.n f.vals.c):=ae V 1;rw[A.out.2] at this;exact this
   have bf:=ah V;have p5:=kd F 5 (Jn m.v.k);have p6:=kd F 6 (Jn m.v.n);have p7:=kd F 7 (.string m.v.s);have p8:=kd F 8 (.pointer m.v.p);have p9:=kd F 9 (.pointer m.v.f);have Hf:B<=I.heap.size:=by have:=Q.size;omega
   have H8:=ai V;have b:=ag (ei F (ei V (ei hx hv)));have ht:=ag (show aB (Gt M g f) w I from(O.mono (λj x=>.inr (.inr (.inl (by rw[A.out.1];exact x))))).trans (Q.mono (λj x=>.inr (.inl x))) (λ_ _ h=>h));have hn:=ag h9;have hS:=ag h6;clear H J h9 O L Y hf Q V F hx hv h6;go_wp2;rw[<-hS.out];have hw:∀W,aI W M m->cl 180 #[Pt M,.agg #[Jn 9,Jn 0,.string ⟨#[]⟩,.pointer none,.pointer none]] W (MU W M {m with mode:=2,v:=cQ 9 0}):=λW hW=>dL W M m (cQ 9 0) hW;have hQ:=ag hw;clear hw a0 af c0 c1 k5 k6 k7 k8 k9 cf;go_region_law (refine R2 _ rfl (.tmp 52) (.tmp 57) 65 rfl B 96 j0 fm 5 48 underlying65 HJ.out.1 HJ.out.2.1 HJ.out.2.2.1 HJ.out.2.2.2 rfl (by decide) (.slice f.vals.a ns.length f.vals.c) ns.length (bw vcs) (by simp[Act.eval,Act.put]) (b.out.2.2.1.alloc _) (dq I.heap.size 0) 1 1 [Jn m.v.k,Jn m.v.n,.string m.v.s,.pointer m.v.p,.pointer m.v.f] (by simp[Act.eval,Act.put]) rfl (iO (fK _ _)) (l8 m.v) (by decide) (by unfold maxLen;omega) (by omega) (by simp;omega) (I.heap.size+1) (by simp) ?_;intro g7 cap7 w7 h3 K ha Hd;have U:=ag (T2 (((TU (λk=>(Value.slice f.vals.a ns.length f.vals.c).ownBlock=some k) I).alloc _).drew) K (λk hk _=>hk));have hd:=ag h3;have X:fp w7 g {f with names:=⟨eb g1,ns.length+1,cap1⟩}:=U.out.at b.out.2.1 (λe=>by obtain⟨c,d⟩:=bt b.out.2.2.1 e;exact bB b.out.2.1 d (by decide) rfl);have q1:Cl w7 g 1 (.slice f.vals.a f.vals.n f.vals.c):=ae X 1;have qf:=ah X;have H7:=ai X;have h4:=ag X;have ho:=ag ha;clear h3 K ha X)
   all_goals
    have C:aB (λk=>k=g) w7 (w7.setCell (dq g 1) (.slice (eb g7) (ns.length+1) cap7)):=(TU _ _).aY;have Z:aI w7 M m:=U.out.at b.out.1 (λe=>by
     obtain⟨c,d⟩:=bt b.out.2.2.1 e;exact bB b.out.1 d (by decide) rfl)
    have hO:=ag (hQ.out (w7.setCell (dq g 1) (.slice (eb g7) (ns.length+1) cap7)) (C.at Z (λe=>h7 e.symm)));have hR:=ag C;clear C Z;go_wp2_with fail;refine hO.out.mono ?_;rintro e w9 ⟨rfl,h1,h2⟩;have HM:=ag (ei h1 h2);clear h1 h2;go_wp2;refine TT ?_;have C:=hR.out;have Hh:∀{q:Nat} {c:bc} {T:bi},w7.heap[q]? =some (Obj.cells c T (0,0))->T≠229->q≠M->w9.heap[q]? =some (Obj.cells c T (0,0)):=λ{q c T} l hT hY=>HM.out.2.at (C.at l (bB l h4.out hT)) hY;have hU:fp w9 g ⟨⟨eb g1,ns.length+1,cap1⟩,⟨eb g7,ns.length+1,cap7⟩,f.up⟩:=by
     refine HM.out.2.at ?_ h7;have:=h4.out;unfold fp at this;rw[TH this]
     congr 1
    have hh:=aq b.out.2.2.2 U.out (λq l e=>by
     obtain⟨c,d⟩:=bt b.out.2.2.2 l;obtain⟨c',G⟩:=bt b.out.2.2.1 e;exact bB d G (by decide) rfl)
    have hX:=aq hh C (λq l e=>by
     obtain⟨c,d⟩:=bt hh l;exact bB d h4.out (by decide) e)
    have Z:aI w7 M m:=U.out.at b.out.1 (λe=>by
     obtain⟨c,d⟩:=bt b.out.2.2.1 e;exact bB b.out.1 d (by decide) rfl)
    have hG:=aq hX HM.out.2 (λq l e=>by
     obtain⟨c,d⟩:=bt hh l;exact bB d Z (by decide) e)
    have H3:=aq hd.out C (λq l e=>by
     obtain⟨c,d⟩:=bt hd.out l;exact bB d h4.out (by decide) e)
    have H4:=aq H3 HM.out.2 (λq l e=>by
     obtain⟨c,d⟩:=bt hd.out l;exact bB d Z (by decide) e)
    have h0:=t.out.ln;refine⟨rfl,⟨⟨eb g1,ns.length+1,cap1⟩,⟨eb g7,ns.length+1,cap7⟩,f.up⟩,⟨hU,?_,?_,?_⟩,rfl,HM.out.1,?_,?_,?_⟩
    .unfold Ot;rw[E.out,ga,s8];rw[HY.out] at hG;exact hG
    .unfold Hb;rw[E.out,ga,eP,<-h0];exact H4
    .unfold Ot Hb;rw[E.out];simp[h0]
    .have e1:aB (Gt M g f) w w7:=ht.out.trans (U.out.mono (λj x=>.inr (.inr (.inr (by rw[A.out.2];exact x))))) (λ_ _ h=>h);have e2:=e1.trans (C.mono (λj x=>.inr (.inl x))) (λ_ _ h=>h);exact e2.trans (HM.out.2.mono (λj x=>.inl x)) (λ_ _ h=>h)
    .intro q l;have:g1=q:=pb l;subst this;rcases hn.out with e|e
     .exact .inl (by rw[A.out.1];exact e)
     .exact .inr (by omega)
    .intro q l;have:g7=q:=pb l;subst this;rcases ho.out with e|e
     .exact .inl (by rw[A.out.2];exact e)
     .have:=ht.out.size;exact .inr (by omega)
def Po(u0 u:Nat)(z:ao):Prop:=Lib.decDigits u0=Lib.decDigits u++z.data.toList/\u<=u0/\z.size<=20
theorem JF(u:Nat)(I:u<=9223372036854775807)(w:aa):cl 232 #[Jn (u:Nat)] w (Od w (Lib.itoa (u:Int))):=by
 have H:¬((u:Int)<0):=by omega
 have E:((u:Int)== -9223372036854775808)=false:=by simp
 have h:Hid (Lib.itoa (u:Int)=Lib.decDigits u):=by
  show _=_;unfold Lib.itoa;rw[fb (by omega)]
  congr 1
 have y:Hid (Po u u ⟨#[]⟩):=⟨by simp,ew _,by decide⟩;have a:Hid ((Lib.decDigits u).length<=20):=by
  have:=ql u 19 (by omega) (by omega);show _<=_;omega
 go_enter func232,ntmps232;go_wp2
 go_loopw [0,3] (λn s wr=>∃(v:Nat) (z:ao),n=Jn v/\s=.string z/\Po u v z/\Below w.heap.size w wr) (λn _ _=>(intOf n).toNat)
 case atStart=>exact⟨u,⟨#[]⟩,by first|rfl|(congr 1;omega),rfl,y.out,fL _ _⟩
 case round=>
  obtain⟨v,z,rfl,rfl,e,hb⟩:=hrel;have j:=ri wr v;obtain⟨c,d⟩:∃c,c=UInt8.ofNat (48+v%10):=⟨_,rfl⟩;rw[<-d] at j;have G:(z.size:Int)<=20:=by have:=e.2.2;omega
  have q:=ag e;have m:=ag hb;have b:=hb.size;have F:=e.2.1;clear e hb;by_cases hlt:(v:Int)<10
  .have f:Hid (Lib.decDigits u=[c]++z.data.toList):=by
    show _=_;rw[q.out.1,d,Lib.decDigits_one (by omega),Nat.mod_eq_of_lt (by omega)]
   have l:(v:Int)/10=0:=by omega
   clear d;go_wp2;go_ret;refine⟨?_,m.out.alloc b _⟩;rw[h.out,f.out];show Ending.returned (.string (⟨#[c]⟩++z))=_
   congr 2
   all_goals(apply ByteArray.ext;apply SG.1;simp)
  .have f:Hid (Po u (v/10) (⟨#[c]⟩++z)):=by
    have h1:Lib.decDigits v=Lib.decDigits (v/10)++[c]:=by
     conv=>lhs;rw[Lib.decDigits]
     rw[Tk (by omega),d]
    have h2:=q.out.1;have h3:(⟨#[c]⟩++z:ao).data.toList=c::z.data.toList:=by simp
    refine⟨by rw[h2,h1,h3];simp,by omega,?_⟩;have t:=a.out;rw[h2,h1] at t;have C:(⟨#[c]⟩++z:ao).size=z.data.toList.length+1:=by
     have D:(⟨#[c]⟩++z:ao).data.toList.length=(⟨#[c]⟩++z:ao).size:=Sz;rw[<-D,h3];simp
    rw[C];simp at t ⊢;omega
   have l:¬((v:Int)/10=0):=by omega
   have x:((v/10:Nat):Int)=(v:Int)/10:=by omega
   have A:=ag x;clear d x;go_wp2;go_roundw
   case rel=>exact⟨v/10,_,by rw[A.out],rfl,f.out,m.out.alloc b _⟩
   case measure=>simp[intOf];omega
theorem JE(n:Int)(u:Nat)(H:n<0)(hm:¬n= -9223372036854775808)(G: -9223372036854775808<=n)(A:(u:Int)= -n)(w:aa):cl 232 #[Jn n] w (Od w (Lib.itoa n)):=by
 have I:(n== -9223372036854775808)=false:=by simp[hm]
 have J:u<=9223372036854775807:=by omega
 have j:=ag A;have h:Hid (Lib.itoa n=[45]++Lib.decDigits u):=by
  show _=_;unfold Lib.itoa;rw[fN H,show n.natAbs=u by omega];rfl
 clear A;have C:Hid (Po u u ⟨#[]⟩):=⟨by simp,ew _,by decide⟩;have a:Hid ((Lib.decDigits u).length<=20):=by
  have:=ql u 19 (by omega) (by omega);show _<=_;omega
 go_enter func232,ntmps232;go_wp2
 go_loopw [0,3] (λn s wr=>∃(v:Nat) (z:ao),n=Jn v/\s=.string z/\Po u v z/\Below w.heap.size w wr) (λn _ _=>(intOf n).toNat)
 case atStart=>exact⟨u,⟨#[]⟩,by rw[j.out],rfl,C.out,fL _ _⟩
 case round=>
  obtain⟨v,z,rfl,rfl,e,hb⟩:=hrel;have l:=ri wr v;obtain⟨c,d⟩:∃c,c=UInt8.ofNat (48+v%10):=⟨_,rfl⟩;rw[<-d] at l;have L:(z.size:Int)<=20:=by have:=e.2.2;omega
  have t:=ag e;have q:=ag hb;have b:=hb.size;have K:=e.2.1;clear e hb;by_cases hlt:(v:Int)<10
  .have f:Hid (Lib.decDigits u=[c]++z.data.toList):=by
    show _=_;rw[t.out.1,d,Lib.decDigits_one (by omega),Nat.mod_eq_of_lt (by omega)]
   have m:(v:Int)/10=0:=by omega
   clear d;go_wp2;go_ret;refine⟨?_,q.out.alloc b _⟩;rw[h.out,f.out];show Ending.returned (.string (⟨#[45]⟩++(⟨#[c]⟩++z)))=_
   congr 2
   all_goals(apply ByteArray.ext;apply SG.1;simp)
  .have f:Hid (Po u (v/10) (⟨#[c]⟩++z)):=by
    have h1:Lib.decDigits v=Lib.decDigits (v/10)++[c]:=by
     conv=>lhs;rw[Lib.decDigits]
     rw[Tk (by omega),d]
    have h2:=t.out.1;have h3:(⟨#[c]⟩++z:ao).data.toList=c::z.data.toList:=by simp
    refine⟨by rw[h2,h1,h3];simp,by omega,?_⟩;have x:=a.out;rw[h2,h1] at x;have E:(⟨#[c]⟩++z:ao).size=z.data.toList.length+1:=by
     have F:(⟨#[c]⟩++z:ao).data.toList.length=(⟨#[c]⟩++z:ao).size:=Sz;rw[<-F,h3];simp
    rw[E];simp at x ⊢;omega
   have m:¬((v:Int)/10=0):=by omega
   have y:((v/10:Nat):Int)=(v:Int)/10:=by omega
   have D:=ag y;clear d y;go_wp2;go_roundw
   case rel=>exact⟨v/10,_,by rw[D.out],rfl,f.out,q.out.alloc b _⟩
   case measure=>simp[intOf];omega
theorem M2(n:Int)(a: -9223372036854775808<=n)(h1:n<=9223372036854775807)(w:aa):cl 232 #[Jn n] w (Od w (Lib.itoa n)):=by
 by_cases hp:0<=n
 .have:=JF n.toNat (by omega) w;rw[show((n.toNat:Nat):Int)=n by omega] at this;exact this
 .by_cases hm:n= -9223372036854775808
  .subst hm;go_enter func232,ntmps232;go_wp2;go_ret;refine⟨?_,fL _ _⟩;rw[show Lib.itoa (-9223372036854775808)=[45,57,50,50,51,51,55,50,48,51,54,56,53,52,55,55,53,56,48,56] by rw[Lib.itoa,fN (by decide)];simp[Lib.decDigits]];rfl
  .exact JE n n.natAbs (by omega) hm a (by omega) w
def AC:V->Nat
 |.pair _ a b=>AC a+AC b+1
 |_=>0
def mt(P r:au):Prop:=(P.length<=100->r=P)/\(100<P.length->100<r.length/\r.take 100=P.take 100)
theorem mt.refl(P:au):mt P P:=⟨λ_=>rfl,λh=>⟨h,rfl⟩⟩
theorem mt.small(h:mt P r)(a:r.length<=100):r=P:=by
 rcases sb 100 P.length with hp|hp
 .have:=(h.2 hp).1;omega
 .exact h.1 hp
theorem mt.more(h:mt P r)(q:au):mt (P++q) (r++q):=by
 rcases sb 100 P.length with hp|hp
 .obtain⟨h1,h2⟩:=h.2 hp;refine⟨λa=> ?_,λ_=>⟨by simp;omega,?_⟩⟩
  .simp at a;omega
  .rw[R8 (by omega),R8 (by omega),h2]
 .rw[h.1 hp];exact mt.refl _
theorem mt.long(h:mt P r)(b:100<r.length)(p q:au):mt (P++p) (r++q):=by
 have hp:100<P.length:=by
  rcases sb 100 P.length with hp|hp
  .exact hp
  .rw[h.1 hp] at b;omega
 obtain⟨h1,h2⟩:=h.2 hp;refine⟨λa=> ?_,λ_=>⟨by simp;omega,?_⟩⟩
 .simp at a;omega
 .rw[R8 (by omega),R8 (by omega),h2]
theorem mt.cut(h:mt P r):r.take 100=P.take 100:=by
 rcases sb 100 P.length with hp|hp
 .exact(h.2 hp).2
 .rw[h.1 hp]
def Bc(w:aa)(s:ao)(v:V)(e:bo)(w':aa):Prop:=∃r:ao,e=.returned (.string r)/\mt (s.data.toList++bK v) r.data.toList/\(100<s.size->r=s)/\(s.size<=100->r.size+s.size<=8401)/\Below w.heap.size w w'
theorem fF(s:ao):s.data.toList.length=s.size:=Sz
theorem gm(a b:ao):(a++b).data.toList=a.data.toList++b.data.toList:=by simp
theorem fG(a b:ao):(a++b).size=a.size+b.size:=by rw[<-fF,gm,ga,fF,fF]
theorem Qe(a:Int)(b: -9223372036854775808<=a)(h1:a<=9223372036854775807):(Lib.itoa a).length<=20:=by
 unfold Lib.itoa;split
 .have:=ql a.natAbs 19 (by omega) (by omega);simp;omega
 .have:=ql a.toNat 19 (by omega) (by omega);omega
theorem As(w:aa)(v:V)(c:Vc)(s:ao)(d:100<s.size):cl 217 #[.string s,.agg c.c] w (Bc w s v):=by
 have e:(100:Int)<(s.size:Int):=by omega
 have a:=ag d;unfold Vc.c;go_enter func217,ntmps217;go_wp2;go_ret;refine⟨s,rfl,?_,λ_=>rfl,λh=>by have:=a.out;omega,aR _ _⟩;have b:100<s.data.toList.length:=by rw[fF];exact a.out
 have:=mt.long (mt.refl s.data.toList) b (bK v) [];rw[Sr] at this;exact this
theorem CT(w:aa)(k:Int)(s:ao)(u:s.size<=100)(h: -9223372036854775808<=k/\k<=9223372036854775807):cl 217 #[.string s,.agg (cQ 1 k).c] w (Bc w s (.int k)):=by
 have v:(s.size:Int)<=100:=by omega
 have l:=ag u;have j:=ag (λW=>M2 k h.1 h.2 W);have d:Hid ((Lib.itoa k).length<=20):=Qe k h.1 h.2;unfold Vc.c cQ;go_enter func217,ntmps217;go_wp2_with fail;refine(j.out _).mono ?_;rintro e w1 ⟨m,hb⟩;obtain⟨z,b⟩:∃z:ao,z=⟨(Lib.itoa k).toArray⟩:=⟨_,rfl⟩;have a:z.size<=20:=by rw[b];have:=d.out;simpa[ByteArray.size] using this
 have x:(z.size:Int)<=20:=by omega
 have f:=ag a;rw[<-b] at m;subst m;have t:=ag b;have q:=ag hb;clear hb j b a;go_wp2;go_ret;refine⟨s++z,rfl,?_,λh=>by have:=l.out;omega,λ_=> ?_,((fL w.heap.size w).alloc (ew _) _).trans (q.out.mono (by simp))⟩
 .rw[gm,t.out];exact mt.refl _
 .rw[fG];have:=l.out;have:=f.out;omega
theorem Aw(w:aa)(s:ao)(b:s.size<=100):cl 217 #[.string s,.agg (vP true).c] w (Bc w s (.bool true)):=by
 have d:(s.size:Int)<=100:=by omega
 have a:=ag b;unfold Vc.c;simp only[vP,cQ];go_enter func217,ntmps217;go_wp2;go_ret;refine⟨s++⟨#[35,116]⟩,rfl,?_,λh=>by have:=a.out;omega,λ_=> ?_,(fL w.heap.size w).alloc (ew _) _⟩
 .rw[gm];exact mt.refl _
 .rw[fG];have:=a.out;have:(⟨#[35,116]⟩:ao).size=2:=rfl;omega
theorem xr(w:aa)(s:ao)(b:s.size<=100):cl 217 #[.string s,.agg (vP false).c] w (Bc w s (.bool false)):=by
 have d:(s.size:Int)<=100:=by omega
 have a:=ag b;unfold Vc.c;simp only[vP,cQ];go_enter func217,ntmps217;go_wp2;go_ret;refine⟨s++⟨#[35,102]⟩,rfl,?_,λh=>by have:=a.out;omega,λ_=> ?_,(fL w.heap.size w).alloc (ew _) _⟩
 .rw[gm];exact mt.refl _
 .rw[fG];have:=a.out;have:(⟨#[35,102]⟩:ao).size=2:=rfl;omega
theorem xq(w:aa)(s:ao)(b:s.size<=100):cl 217 #[.string s,.agg (cQ 4 0).c] w (Bc w s .empty):=by
 have d:(s.size:Int)<=100:=by omega
 have a:=ag b;unfold Vc.c;simp only[vP,cQ];go_enter func217,ntmps217;go_wp2;go_ret;refine⟨s++⟨#[40,41]⟩,rfl,?_,λh=>by have:=a.out;omega,λ_=> ?_,(fL w.heap.size w).alloc (ew _) _⟩
 .rw[gm];exact mt.refl _
 .rw[fG];have:=a.out;have:(⟨#[40,41]⟩:ao).size=2:=rfl;omega
theorem sG(w:aa)(s:ao)(b:s.size<=100):cl 217 #[.string s,.agg (cQ 9 0).c] w (Bc w s .nothing):=by
 have d:(s.size:Int)<=100:=by omega
 have a:=ag b;unfold Vc.c;simp only[vP,cQ];go_enter func217,ntmps217;go_wp2;go_ret;refine⟨s++⟨#[35,110]⟩,rfl,?_,λh=>by have:=a.out;omega,λ_=> ?_,(fL w.heap.size w).alloc (ew _) _⟩
 .rw[gm];exact mt.refl _
 .rw[fG];have:=a.out;have:(⟨#[35,110]⟩:ao).size=2:=rfl;omega
theorem CU(w:aa)(t:au)(s:ao)(j:s.size<=100)(m:t.length<=8000):cl 217 #[.string s,.agg (dy t).c] w (Bc w s (.sym t)):=by
 have l:(s.size:Int)<=100:=by omega
 have e:=ag j;obtain⟨z,b⟩:∃z:ao,z=⟨t.toArray⟩:=⟨_,rfl⟩;have a:z.size<=8000:=by rw[b];simpa[ByteArray.size] using m
 have q:(z.size:Int)<=8000:=by omega
 have d:=ag a;have f:=ag b;unfold Vc.c dy;rw[<-b];clear b a;go_enter func217,ntmps217;go_wp2;go_ret;refine⟨s++z,rfl,?_,λh=>by have:=e.out;omega,λ_=> ?_,(fL w.heap.size w).alloc (ew _) _⟩
 .rw[gm,f.out];exact mt.refl _
 .rw[fG];have:=e.out;have:=d.out;omega
theorem Av(w:aa)(id:Nat)(c:Vc)(s:ao)(d:s.size<=100)(a:c.k=6\/c.k=7\/c.k=8):cl 217 #[.string s,.agg c.c] w (Bc w s (.proc id)):=by
 have e:(s.size:Int)<=100:=by omega
 have j:=ag d;obtain⟨k,n,t,p,f⟩:=c;unfold Vc.c;simp only at a ⊢;have b:Hid (∀W,Below w.heap.size w W->Bc w s (.proc id) (.returned (.string (s++⟨#[35,112]⟩))) W):=λW hb=>by
  refine⟨s++⟨#[35,112]⟩,rfl,?_,λh=>by omega,λ_=> ?_,hb⟩
  .rw[gm];exact mt.refl _
  .rw[fG];have:(⟨#[35,112]⟩:ao).size=2:=rfl;omega
 rcases a with rfl|rfl|rfl
 all_goals
  go_enter func217,ntmps217;go_wp2;go_ret;exact b.out _ ((fL w.heap.size w).alloc (ew _) _)
theorem RX.sort{w:aa}{b:V}{c:Vc}(h:RX w mo b c):(∃id p q g x y,b=.pair id p q/\c=eg g/\gY w g x y/\RX w mo p x/\RX w mo q y)\/(b=.empty/\c=cQ 4 0)\/(¬c.k=5/\¬c.k=4/\AC b=0/\iE true b=[32,46,32]++bK b++[41]):=by
 cases b with
 |int k=>obtain⟨rfl,_⟩:=h;exact .inr (.inr ⟨by simp[cQ],by simp[cQ],rfl,rfl⟩)
 |bool b=>have h:c=_:=h;subst h;exact .inr (.inr ⟨by simp[cQ],by simp[cQ],rfl,by cases b<;>rfl⟩)
 |sym t=>obtain⟨rfl,_⟩:=h;exact .inr (.inr ⟨by simp[dy],by simp[dy],rfl,rfl⟩)
 |empty=>have h:c=_:=h;exact .inr (.inl ⟨rfl,h⟩)
 |nothing=>have h:c=_:=h;subst h;exact .inr (.inr ⟨by simp[cQ],by simp[cQ],rfl,rfl⟩)
 |pair id p q=>obtain⟨g,x,y,h1,h2,h3,a,d⟩:=h;exact .inl ⟨id,p,q,g,x,y,rfl,h2,h3,a,d⟩
 |proc id=>
  rcases h with⟨k,s,h1,h2,rfl⟩|⟨h1,h2,g,p,h3,a,rfl⟩
  .exact .inr (.inr ⟨by simp,by simp,rfl,rfl⟩)
  .exact .inr (.inr ⟨by simp only;split<;>decide,by simp only;split<;>decide,rfl,rfl⟩)
def strOf:al->ao
 |.string z=>z
 |_=>⟨#[]⟩
def Q0(w:aa)(mo:Nat->Option Nat)(R k n:Nat)(T:au)(z:ao)(wr:aa):Prop:=
 ∃(P:au) (b:V) (c:Vc),mt P z.data.toList/\T=P++iE true b/\wr.heap[R]? =some (Obj.cells c.c 96 (0,0))/\RX wr mo b c/\AC b<n/\z.size+k<=8400/\k+1<=z.size/\Below w.heap.size w wr
theorem El{T:au}(h:mt P z.data.toList)(a:T=P++[41]):mt T (z++⟨#[41]⟩).data.toList:=by
 rw[a,gm];exact h.more [41]
theorem AT{T q:au}(h:mt P z.data.toList)(b:100<z.size)(a:T=P++q):mt T (z++⟨#[41]⟩).data.toList:=by
 rw[a,gm];exact h.long (by rw[fF];exact b) q [41]
theorem Au(mo:Nat->Option Nat)(id:Nat)(a b:V)(IH:∀v',AC v'<AC (.pair id a b)->∀(w:aa) (c:Vc) (s:ao),RX w mo v' c->cl 217 #[.string s,.agg c.c] w (Bc w s v'))(w:aa)(c:Vc)(s:ao)(hs:s.size<=100)(h:RX w mo (.pair id a b) c):cl 217 #[.string s,.agg c.c] w (Bc w s (.pair id a b)):=by
 obtain⟨g,x,y,hr,rfl,K,hx,hy⟩:=h;have hD:(s.size:Int)<=100:=by omega
 have HS:=ag hs;have ho:=ai K;have x0:=kd K 0 (Jn x.k);have x1:=kd K 1 (Jn x.n);have x2:=kd K 2 (.string x.s);have x3:=kd K 3 (.pointer x.p);have x4:=kd K 4 (.pointer x.f);have O:Hid (∀(W:aa),Below w.heap.size w W->cl 217 #[.string (s++⟨#[40]⟩),.agg x.c] W (Bc W (s++⟨#[40]⟩) a)):=λW hb=>IH a (by simp only[AC];omega) W x _ (T5 (T6 hb) (TV _) a x hx);have h0:=ag IH;have HY:=ag hy;have HP:=ag K;unfold Vc.c at O;unfold Vc.c eg;clear K hx hy IH hs hr;go_enter func217,ntmps217;go_wp2_with fail;refine(O.out _ (aR _ _)).mono ?_;rintro e w1 ⟨r1,rfl,X,h9,ha,U⟩;have j:Below w.heap.size w w1:=((fL _ w).alloc (ew _) _).trans (U.mono (by simp));have D:gY w1 g x y:=(j.block g ho).trans HP.out;have y5:=kd D 5 (Jn y.k);have y6:=kd D 6 (Jn y.n);have y7:=kd D 7 (.string y.s);have y8:=kd D 8 (.pointer y.p);have y9:=kd D 9 (.pointer y.f);have hB:w1.cell? (dq w.heap.size 3)=some (Pt g):=by
  rw[U.cell (p:=(dq w.heap.size 3)) (by simp)];exact(Cb _ _ _ _ (by simp)).trans rfl
 have J:(s++⟨#[40]⟩:ao).size=s.size+1:=fG _ _;have h4:Hid (Q0 w mo w1.heap.size s.size (AC (.pair id a b)) (s.data.toList++bK (.pair id a b)) r1 (w1.alloc (Obj.cells y.c 96))):=by
  have d:Below w.heap.size w (w1.alloc (Obj.cells y.c 96)):=j.alloc j.size _;refine⟨_,b,y,X,?_,fK _ _,T5 (T6 d) (TV _) b y HY.out,by simp only[AC];omega,?_,?_,d⟩
  .rw[gm];show s.data.toList++(40::(iE false a++iE true b))=_;simp[bK]
  .rcases sb 100 (s++⟨#[40]⟩:ao).size with G|G
   .rw[h9 G,J];have:=HS.out;omega
   .have:=ha G;rw[J] at this;omega
  .have h1:=X;rcases sb 100 ((s++⟨#[40]⟩:ao).data.toList++bK a).length with G|G
   .have:=(h1.2 G).1;rw[fF] at this;have:=HS.out;omega
   .have:=Sq List.length (h1.1 G);rw[fF,ga,fF,J] at this;omega
 have hA:=j.size;have hv:=ag j;clear X h9 ha U j D J x0 x1 x2 x3 x4 O;go_wp2
 go_loopw [0] (λu wr=>∃z:ao,u=.string z/\Q0 w mo w1.heap.size s.size (AC (.pair id a b)) (s.data.toList++bK (.pair id a b)) z wr) (λu _=>101-(strOf u).size)
 case atStart=>exact⟨r1,rfl,h4.out⟩
 case round=>
  clear h4;obtain⟨z,rfl,P,b',c,v,hT,hR,S,Y,hE,hF,hb⟩:=hrel;have HT:=ag hT;have N:=ag v;have HB:=ag hb;have h6:=hb.size;have hn:=ai hR;have f0:=kd hR 0 (Jn c.k);have hG:(z.size:Int)<=8400:=by omega
  have A:Hid (∀(r:ao) (W:aa),mt (s.data.toList++bK (.pair id a b)) (r++⟨#[41]⟩).data.toList->r.size+s.size<=8400->Below w.heap.size w W->Bc w s (.pair id a b) (.returned (.string (r++⟨#[41]⟩))) W):=λr W h1 h2 h3=>by
   refine⟨r++⟨#[41]⟩,rfl,h1,λh=>by have:=HS.out;omega,λ_=> ?_,h3⟩;rw[fG];have:(⟨#[41]⟩:ao).size=1:=rfl;omega
  rcases S.sort with⟨hH,p,q,g',xa,t,rfl,rfl,l,hp,G⟩|⟨rfl,rfl⟩|⟨k5,k4,hC,H⟩
  .by_cases ht:(z.size:Int)<=100
   .have f3:=kd hR 3 (Pt g');have h5:Cl wr w1.heap.size 0 (Jn 5):=f0;have a0:=kd l 0 (Jn xa.k);have a1:=kd l 1 (Jn xa.n);have a2:=kd l 2 (.string xa.s);have a3:=kd l 3 (.pointer xa.p);have a4:=kd l 4 (.pointer xa.f);have M:=ag (h0.out p (by simp only[AC] at Y ⊢;omega) wr xa (z++⟨#[32]⟩) hp);have I:z.data.toList=P:=v.small (by rw[fF];omega);have R:=ag I;have HQ:=ag G;have hg:=ag l;have HR:=ag hR;have hc:AC q<AC (.pair id a b):=by simp only[AC] at Y ⊢;omega
    have hl:=ag hc;have h7:=ai l;unfold Vc.c at M;clear v hT hR S hb hp G l I f0 hc;go_wp2_with fail;refine M.out.mono ?_;rintro e w2 ⟨r2,rfl,q1,q2,q3,d⟩;have hw:=d.size;have E:gY w2 g' xa t:=(d.block g' h7).trans hg.out;have m:w2.heap[w1.heap.size]? =some (.cells (eg g').c 96):=(d.block _ hn).trans HR.out;have e5:=kd E 5 (Jn t.k);have e6:=kd E 6 (Jn t.n);have e7:=kd E 7 (.string t.s);have e8:=kd E 8 (.pointer t.p);have e9:=kd E 9 (.pointer t.f);have b0:=kd m 0 (Jn 5);have b1:=kd m 1 (Jn 0);have b2:=kd m 2 (.string ⟨#[]⟩);have b3:=kd m 3 (Pt g');have b4:=kd m 4 (.pointer none);have bf:=ah m;have C:(z++⟨#[32]⟩:ao).size=z.size+1:=fG _ _;have h8:z.size<r2.size:=by
     rcases sb 100 ((z++⟨#[32]⟩:ao).data.toList++bK p).length with F|F
     .have:=(q1.2 F).1;rw[fF] at this;omega
     .have:=Sq List.length (q1.1 F);rw[fF,ga,fF,C] at this;omega
    have he:=ag h8;have hf:Hid (∀W,W=dW w2 w1.heap.size (Jn t.k) (Jn t.n) (.string t.s) (.pointer t.p) (.pointer t.f)->Q0 w mo w1.heap.size s.size (AC (.pair id a b)) (s.data.toList++bK (.pair id a b)) r2 W):=λW hW=>by
     have hu:=cU w2 w1.heap.size (Jn t.k) (Jn t.n) (.string t.s) (.pointer t.p) (.pointer t.f);rw[<-hW] at hu;have hk:KR wr W:=(T6 d).trans (jw m hu);refine⟨_,q,t,q1,?_,by rw[hW];exact bA _ _ _ _ _ m,T5 hk (TV _) q t HQ.out,hl.out,?_,by omega,(HB.out.trans (d.mono h6)).trans (hu.below (by omega) (λk hk=>by omega))⟩
     .rw[HT.out,gm,R.out];show P++(32::(iE false p++iE true q))=_;simp[bK]
     .rcases sb 100 (z++⟨#[32]⟩:ao).size with F|F
      .rw[q2 F,C];omega
      .have:=q3 F;rw[C] at this;omega
    clear q1 q2 q3 d E m C h8 M;go_wp2;go_roundw
    case rel=>exact⟨r2,rfl,hf.out _ rfl⟩
    case measure=>
     have:=he.out;simp only[strOf];omega
   .have h5:Cl wr w1.heap.size 0 (Jn 5):=f0;have Q:=ag (show 100<z.size by omega);clear v hT hR S hb hp G l f0;go_wp2;go_ret;exact A.out z _ (AT N.out Q.out HT.out) (by omega) HB.out
  .have h5:Cl wr w1.heap.size 0 (Jn 4):=f0;clear v hT hR S hb f0;go_wp2;go_ret;exact A.out z _ (El N.out HT.out) (by omega) HB.out
  .have hJ:(c.k==5)=false:=by simp[k5]
   have hI:(c.k==4)=false:=by simp[k4]
   by_cases ht:(z.size:Int)<=100
   .have f1:=kd hR 1 (Jn c.n);have f2:=kd hR 2 (.string c.s);have f3:=kd hR 3 (.pointer c.p);have f4:=kd hR 4 (.pointer c.f);have M:=ag (h0.out b' (by simp only[AC] at Y ⊢;omega) wr c (z++⟨#[32,46,32]⟩) S);have I:z.data.toList=P:=v.small (by rw[fF];omega);have R:=ag I;have hm:=ag H;unfold Vc.c at M;clear v hT hR S hb I H;go_wp2_with fail;refine M.out.mono ?_;rintro e w2 ⟨r2,rfl,q1,q2,q3,d⟩;have Z:(z++⟨#[32,46,32]⟩:ao).size=z.size+3:=fG _ _;have L:r2.size+s.size<=8400:=by
     rcases sb 100 (z++⟨#[32,46,32]⟩:ao).size with F|F
     .rw[q2 F,Z];have:=HS.out;omega
     .have:=q3 F;rw[Z] at this;omega
    have hz:(r2.size:Int)<=8400:=by omega
    have hi:=ag q1;have hd:=ag (HB.out.trans (d.mono h6));have hj:=ag L;clear q1 q2 q3 d Z L M;go_wp2;go_ret;refine A.out r2 _ (El hi.out ?_) hj.out hd.out;rw[HT.out,hm.out,gm,R.out];simp
   .have Q:=ag (show 100<z.size by omega);clear v hT hR S hb;go_wp2;go_ret;exact A.out z _ (AT N.out Q.out HT.out) (by omega) HB.out
theorem uX(mo:Nat->Option Nat):∀(n:Nat) (v:V),AC v<n->∀(w:aa) (c:Vc) (s:ao),RX w mo v c->cl 217 #[.string s,.agg c.c] w (Bc w s v)
 |0,v,e=>by omega
 |n+1,v,e=>λw c s h=>by
  rcases sb 100 s.size with d|d
  .exact As w v c s d
  .cases v with
   |int k=>obtain⟨rfl,h1⟩:=h;exact CT w k s d h1
   |bool b=>
    have h:c=_:=h;subst h;cases b with
    |true=>exact Aw w s d
    |false=>exact xr w s d
   |sym t=>obtain⟨rfl,h1⟩:=h;exact CU w t s d h1
   |empty=>have h:c=_:=h;subst h;exact xq w s d
   |nothing=>have h:c=_:=h;subst h;exact sG w s d
   |pair id a b=>exact Au mo id a b (λj f=>uX mo n j (by omega)) w c s d h
   |proc id=>
    refine Av w id c s d ?_;rcases h with⟨k,t,h1,h2,rfl⟩|⟨h1,h2,g,p,h3,l,rfl⟩
    .exact .inr (.inl rfl)
    .simp only;split
     .exact .inl rfl
     .exact .inr (.inr rfl)
def PY(w:aa)(v:V)(e:bo)(w':aa):Prop:=e=.returned (.string ⟨((bK v).take 100).toArray⟩)/\Below w.heap.size w w'
theorem Aq(w:aa)(mo:Nat->Option Nat)(v:V)(c:Vc)(h:RX w mo v c):cl 186 #[.agg c.c] w (PY w v):=by
 have m:Hid (∀W:aa,Below w.heap.size w W->cl 217 #[.string ⟨#[]⟩,.agg c.c] W (Bc W ⟨#[]⟩ v)):=λW hb=>uX mo _ v (Nat.lt_succ_self _) W c _ (T5 (T6 hb) (TV _) v c h);unfold Vc.c at *;clear h;go_enter func186,ntmps186;go_wp2_with fail;refine(m.out _ (aR _ _)).mono ?_;rintro e w1 ⟨r,rfl,f,t,j,hb⟩;have a:=ag (((fL w.heap.size w).alloc (ew _) _).trans (hb.mono (by simp)));have d:mt (bK v) r.data.toList:=f;have b:=ag d;have s:(r.size:Int)<=8401:=by have:=j (by decide);have u:(⟨#[]⟩:ao).size=0:=rfl;omega
 clear f t j hb d;by_cases x:(100:Int)<(r.size:Int)
 .have q:Hid (r.extract 0 100=⟨((bK v).take 100).toArray⟩):=by
   show _=_;rw[<-b.out.cut,<-Bp (r.extract 0 100)]
   congr 2
   rw[SF];simp
  go_wp2;go_ret;exact⟨by rw[<-q.out];rfl,a.out⟩
 .have l:=ag (show r.data.toList.length<=100 by rw[fF];omega);go_wp2;go_ret;refine⟨?_,a.out⟩;have h1:=b.out.cut;rw[s9 l.out] at h1;rw[<-h1,Bp];rfl
end Go.Proofs.YtlobegpjenabaaaGreatDoor
