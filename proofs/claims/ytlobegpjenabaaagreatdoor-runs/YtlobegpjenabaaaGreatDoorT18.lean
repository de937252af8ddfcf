import Derived.Test.YtlobegpjenabaaaGreatDoorT17
import Derived.Stop.Asserts
namespace Go.Proofs.YtlobegpjenabaaaGreatDoor
open Go.RowKit Tryz
set_option linter.unusedSimpArgs false
set_option linter.unusedVariables false
set_option linter.defProp false
set_option maxRecDepth 100000
set_option maxHeartbeats 4000000
def Si:=@World.frozen?_alloc_old
def SX:=@rounds_succ
def Tm:=@Sem.run_bind
def Tz:=@wp_loop_rounds
variable {P:Program} {ops:Array Oper} {o:List au} {a:a8} {K M gf B most k:Nat} {Q:Exit->Act->aa->Prop} {w9 w' w1 w2:aa} {n pc er de:Int} {old v2 u:al} {cM cE:bc} {ow ow':Nat->Option Nat} {C:Cd} {s:MS} {va t:au} {X':a9}
theorem nt{o:Oper}{a:Act}{w:aa}{K:Act->aa->Prop}{E:Prop}(b:o.guard=none)(h:Oper.wp P o a w K Q):if Region.wanted o (yielded ops a.tmps)=true then Oper.wp P o a w K Q else E:=by
 have c:Region.wanted o (yielded ops a.tmps)=true:=by simp[Region.wanted,b]
 rw[fN c];exact h
theorem wg(w:aa)(M e c b oc:Nat)(d:a8)(f:Cl w M 7 (.slice d 40 oc)):
  cl 175 #[Pt M,.slice (some (dq e c)) 1 b] w (bD (dR 10) w):=by
 go_enter func175,ntmps175;go_wp2;go_ret;exact⟨rfl,rfl⟩
theorem cP.move{w:aa}{E:Nat}(h:cP w M E gf n pc old v2)(i:w.heap[M]? =some (.cells cM 119))(b:w9.heap[M]? =some (.cells cM 119))(g:w.heap[E]? =some (.cells cE 115))(c:w9.heap[E]? =some (.cells cE 115))(d:al):cP (w9.setCell (dq M 7) d) M E gf n pc old v2:=by
 have hm:∀o,o≠7->(w9.setCell (dq M 7) d).cell? (dq M o)=w.cell? (dq M o):=λo ho=>(kx _ _ _ _ (by intro e;injection e with _ e;exact ho e.symm)).trans ((ae b o).trans (ae i o).symm);have f:∀o,(w9.setCell (dq M 7) d).cell? (dq E o)=w.cell? (dq E o):=λo=>(kx _ _ _ _ (by intro e;injection e with e _;exact h.ne e.symm)).trans ((ae c o).trans (ae g o).symm);refine⟨h.ne,by simp;exact ai b,by simp;exact ai c,(hm 6 (by decide)).trans h.k6,(hm 1 (by decide)).trans h.k1,(hm 2 (by decide)).trans h.k2,(hm 3 (by decide)).trans h.k3,λo=> ?_,(f 3).trans h.e3,(f 2).trans h.e2⟩;rw[St];exact ah b o
def Gx(w:aa)(B M gf:Nat)(nx:Int)(u:al)(os:a7)(tl:ao)(e:bo)(w':aa):Prop:=
 ∃b g a,e=.returned .nilIface/\aB (λk=>u.ownBlock=some k) w b/\(u.ownBlock=some g\/w.heap.size<=g)/\b.ownsRow B 9 1 (.slice (eb g) (os.length+1) a) (os.length+1) (os++[.string tl])/\w'=cO (b.setCell ⟨M,7,none⟩ (.slice (eb g) (os.length+1) a)) M gf nx (.iface 259 (.agg #[]))
theorem BI(w:aa)(B M E gf j c h0 oc:Nat)(nx pc:Int)(old v2:al)(t:bi)(x:al)(m:a8)(os:a7)(tl:ao)(cM cE cV:bc)(hG:cP w M E gf nx pc old v2)(z:w.heap[M]? =some (.cells cM 119))(J:w.heap[E]? =some (.cells cE 115))(A:w.heap[j]? =some (.cells cV 81))(k7:Cl w M 7 (.slice m os.length oc))(r:w.ownsRow B 9 1 (.slice m os.length oc) os.length os)(h5:os.length<40)(h1:j≠M)(a0:Cl w j c (.iface t x))(hB:B<=w.heap.size)(HT:Hid (cl 198 #[.iface t x] w.drew λe w'=>e=.returned (.string tl)/\Below w.heap.size w w')):
  cl 175 #[Pt M,.slice (some (dq j c)) 1 h0] w (Gx w B M gf nx (.slice m os.length oc) os tl):=by
 obtain⟨i0,hi,S,T,U⟩:=sv qr;have V:=ag (ei hi (ei S (ei T U)));have G:=ag r;have HG:=ag hG;have i:=ag z;have v:=ag J;have y:=ag A;have X:=ag hB;have L:=ai z;have O:=ai A;have h2:M≠j:=λe=>h1 e.symm;have b40:(((os.length:Nat):Int)==40)=false:=by rw[j2];omega
 clear hi S T U r hG z J A;go_enter func175,ntmps175;go_wp2;go_region_law (first|(refine nt rfl ?_;go_simp;go_at_call 198;refine HT.out.mono ?_;rintro e w1 ⟨rfl,hb⟩;have m7:Cl w1 M 7 (.slice m os.length oc):=(hb.cell (p:=(dq M 7)) L).trans k7;have mv:Cl w1 j c (.iface t x):=(hb.cell (p:=(dq j c)) O).trans a0;have h3:M<w1.heap.size:=gr L hb.size;have h4:j<w1.heap.size:=gr O hb.size;have d:=ag hb;clear hb)|(refine R2 _ rfl (.tmp 17) (.tmp 22) 26 rfl B 9 i0 (.string ⟨#[]⟩) 1 16 underlying26 V.out.1 V.out.2.1 V.out.2.2.1 V.out.2.2.2 rfl (by decide) (.slice m os.length oc) os.length os (by simp[Act.eval,Act.put]) ((aq G.out (TW (λ_=>False) d.out) (λ_ _ h=>h)).alloc _) (dq w1.heap.size 0) 1 1 [.string tl] (by simp[Act.eval,Act.put]) rfl (PL (fK _ _)) (by intro u hu;simp at hu;subst hu;rfl) (by decide) (by unfold maxLen;omega) (by omega) (by have:=X.out;have:=d.out.size;simp;omega) (w1.heap.size+1) (by simp) ?_;intro g9 cap9 w9 g b q R;have f:=ag (show aB (λk=>(Value.slice m os.length oc).ownBlock=some k) w w9 from T2 (((TW _ d.out).alloc _)) (by first|exact b|exact b.drew) (λk hk _=>hk));have N:=aM G.out f.out (T':=81) (by decide) _ _ y.out;have mv9:Cl w9 j c (.iface t x):=(ae N c).trans ((ae y.out c).symm.trans a0);have l:=aM G.out f.out (T':=119) (by decide) _ _ i.out;have m79:Cl w9 M 7 (.slice m os.length oc):=(ae l 7).trans ((ae i.out 7).symm.trans k7);have f79:=ah l 7;have F:=ag l;have H:=ag g;have D:=ag q;clear g b q R N l))
 all_goals
  have I:=aM G.out f.out (T':=115) (by decide) _ _ v.out;have Y:=ag (ek (HG.out.move i.out F.out v.out I (.slice (eb g9) (os.length+1) cap9)) 259 (.agg #[]));have HF:=ag (show∀w',w'=cO (w9.setCell (dq M 7) (.slice (eb g9) (os.length+1) cap9)) M gf nx (.iface 259 (.agg #[]))->Gx w B M gf nx (.slice m os.length oc) os tl (.returned .nilIface) w' from λw' W=>⟨w9,g9,cap9,rfl,f.out,D.out.imp id (λh=>by have:=d.out.size;omega),H.out,W⟩);clear I f D H F d G HG i v y;go_wp2_with fail;refine Y.out.mono ?_;rintro e w' ⟨rfl,W⟩;have Z:=ag W;clear W;go_wp2;go_ret;exact HF.out _ Z.out
theorem Hy:Dj:=by
 intro B K w X ow mo mf M b C s val app args out top gf n pid g z0 a h G hu h6 hg ha hn;obtain⟨k0,k1,k2,k3,k4,k5,k6,k7,k8,k9,k10,k11⟩:=bq G;have hA:=h.app;rw[hu] at hA;obtain⟨hp,xs,hI,hF⟩:=hA;rw[h6] at k4;obtain⟨D,x1,rfl,rfl,hb⟩:=j6 hI ha;obtain⟨V,A,p,c,rfl,h7,c0⟩:=kT hF;have ngv:V≠M:=aU h7 G (by decide);obtain⟨t,y,rfl⟩:=hb.form;have g0:=kd hg 0 (.string z0);have g1:=kd hg 1 (Jn (1:Nat));have g2:=kd hg 2 (.func (.func 175) #[aD M] #[]);obtain⟨S,hD,hL⟩:=h.out;obtain⟨x,oc,hE,_,_,_⟩:=ay S;subst hE;have h2:=h.drew.drew;by_cases L:s.out.length=40
 .have he:bV C {s with app:=none} 12 [D]=eE {s with app:=none} 10:=by simp only[bV];rw[fN L]
  rw[he] at hn ⊢;rw[L] at k7;refine(mG w M g 1 p 0 0 n 10 z0 _ k4 k5 g0 g1 g2 (ag (wg w.drew.drew M V A p oc x k7))).mono ?_;rintro e w' ⟨rfl,rfl⟩;exact d8 h G 10 z0 _ ⟨2,rfl⟩ hn
 .have he:bV C {s with app:=none} 12 [D]=du {s with app:=none,out:=s.out++[(bK D).take 100]} .nothing:=by simp only[bV];rw[fb L]
  rw[he] at hn ⊢;obtain⟨Z,r,hs,hB⟩:=fO _ _ hn;have hs:s.st=Z::r:=hs;obtain⟨E,gf0,hz,hG⟩:=h2.jO G Z r hs;have h8:=h.st;rw[hs] at h8;obtain⟨E',q',hK,got',hf,hl,_⟩:=h8;have hi:E'=E:=by
   have Y:=hG.k6;have e2:Cl w.drew.drew M 6 (.pointer top):=k6;rw[e2,hf] at Y;cases Y;rfl
  subst hi;have z:(s.out.map bO).length=s.out.length:=by simp
  have hT:cl 198 #[.iface t y] w.drew.drew.drew λe w'=>e=.returned (.string ⟨((bK D).take 100).toArray⟩)/\Below w.drew.drew.heap.size w.drew.drew w':=
   (AP D w.drew.drew.drew _ _ (VX.vr (w:=w.drew.drew.drew) h.mlt D _ (VX.ak (show aC _ w w.drew.drew.drew from λ_ _ i=>i) (TV _) _ _ hb)) (h2.drew.tab.mono h.d7)).mono λe w' F=>⟨F.1,((fL w.drew.drew.heap.size w.drew.drew).drew).trans F.2⟩
  have hd:=BI w.drew.drew B M E' gf0 V A p oc Z.nx s.pc _ _ t y x (s.out.map bO) ⟨((bK D).take 100).toArray⟩ _ _ _ hG G hl h7 (by rw[z];exact k7) (by rw[z];exact S) (by rw[z];omega) ngv c0 h.d7 (ag hT);refine(nT w M g 1 p 0 0 0 0 n z0 _ (λw'=>Gx w.drew.drew B M gf0 Z.nx (.slice x (s.out.map bO).length oc) (s.out.map bO) ⟨((bK D).take 100).toArray⟩ (.returned .nilIface) w') k4 k5 g0 g1 g2 (ag (hd.mono λe w' F=>⟨by obtain⟨_,_,_,Y,_⟩:=F;exact Y,by obtain⟨w2,g',W,Y,rest⟩:=F;exact⟨w2,g',W,rfl,rest⟩⟩))).mono ?_;rintro e w' ⟨rfl,w2,m,cap9,_,v,h5,q,rfl⟩;rw[z] at v h5 q;have J:∃c9,w2.heap[m]? =some (Obj.cells c9 9 (0,0)):=by
   rcases q.2 with⟨e,_⟩|⟨g',W,cu,e,_,F,_⟩
   .cases e
   .cases e;exact⟨cu,F⟩
  have f:∀k,(Value.slice x s.out.length oc).ownBlock=some k->ow k=some 0/\∃c,w.heap[k]? =some (Obj.cells c 9 (0,0)):=λk d=>by
   refine⟨hD k d,?_⟩;rcases S.2 with⟨e,_⟩|⟨g',W,cu,e,_,F,_⟩
   .rw[e] at d;cases d
   .rw[e] at d;cases d;exact⟨cu,F⟩
  have l:m<w.heap.size->ow m=some 0:=λhlt=>by
   rcases h5 with e|e
   .exact(f m e).1
   .have e:w.heap.size<=m:=e;omega
  classical
  have H:¬(Value.slice x s.out.length oc).ownBlock=some M:=λe=>by obtain⟨W,hv⟩:=(f M e).2;exact aU G hv (by decide) rfl
  have N:w2.heap[M]? =some (Obj.cells (eL b s.pc val (aD gf) app (.slice (some (dq V A)) 1 p) (.pointer top) (.slice x s.out.length oc) 0 0 0 ⟨#[]⟩) 119 (0,0)):=by
   rw[v.block M (ai G) H];exact G
  have hq:M≠m:=by obtain⟨c9,O⟩:=J;exact aU N O (by decide)
  have hC:aC 205 w.drew.drew w2:=T1 v λk W d hc=>by obtain⟨c2,hy⟩:=(f k d).2;exact aU hc hy (by decide) rfl
  have I:=h2.gen (X':=λk=>(X k/\¬(Value.slice x s.out.length oc).ownBlock=some k)\/k=m) (ow':=λk=>if k=m then some 0 else if(Value.slice x s.out.length oc).ownBlock=some k then none else ow k) v (λk d=>h.owx _ _ (f k d).1)
   (λk d i=>by
    have d:k<w.heap.size:=d;rcases i with i|i
    .exact i.1
    .subst i;exact h.owx _ _ (l d))
   (by show(if M=m then some 0 else if(Value.slice x s.out.length oc).ownBlock=some M then none else ow M)=some 0;rw[fb hq,fb H];exact h.owM)
   (λk t' T=>by
    have T:(if k=m then some 0 else if(Value.slice x s.out.length oc).ownBlock=some k then none else ow k)=some t':=T;by_cases e:k=m
    .exact .inr e
    .rw[fb e] at T;by_cases e2:(Value.slice x s.out.length oc).ownBlock=some k
     .rw[fN e2] at T;cases T
     .rw[fb e2] at T;exact .inl ⟨h.owx _ _ T,e2⟩)
   (λk i d=>by
    rcases i with⟨i,hH⟩|i
    .rcases d with d|d
     .exact absurd d hH
     .have:=h.Pn k i;have d:w.heap.size<=k:=d;omega
    .subst i;obtain⟨c9,O⟩:=J;exact⟨_,_,O,by decide⟩)
   none app (.slice (some (dq V A)) 1 p) trivial (s.out++[(bK D).take 100]) (.slice (eb m) (s.out.length+1) cap9)
   (by
    refine⟨?_,λk d=> ?_,by simp;omega⟩
    .rw[s8,ga];exact q
    .have:m=k:=by simpa[Value.ownBlock] using d
     subst this;exact fN rfl)
   s.frs rfl
   (λj fr hj=>by
    obtain⟨g',pn,nv,vv,op,hJ,h1,h3⟩:=h2.frs j fr hj;refine⟨g',pn,nv,vv,op,hJ,h1,h3.ak hC (TV _) (TV _) (λk d U=>⟨?_,v.block k d (λe=>by rw[(f k e).1] at U;cases U)⟩) (λk d R=>⟨?_,v.block k d (λe=>R (h.owx _ _ (f k e).1))⟩)⟩
    .have d:k<w.heap.size:=d;show(if k=m then some 0 else if(Value.slice x s.out.length oc).ownBlock=some k then none else ow k)=_;rw[fb (λe=>by subst e;rw[l d] at U;cases U),fb (λe=>by rw[(f k e).1] at U;cases U)];exact U
    .have d:k<w.heap.size:=d;rintro(i|i)
     .exact R i.1
     .subst i;exact R (h.owx _ _ (l d)))
  have h9:=aY w2 M 7 (.slice (eb m) (s.out.length+1) cap9);have h0:(w2.setCell (dq M 7) (.slice (eb m) (s.out.length+1) cap9)).heap[M]? =some (Obj.cells (eL b s.pc val (aD gf) app (.slice (some (dq V A)) 1 p) (.pointer top) (.slice (eb m) (s.out.length+1) cap9) 0 0 0 ⟨#[]⟩) 119 (0,0)):=(TH N).trans rfl;have h4:=I.ext N h9 h0;obtain⟨X',ow',hr,hm⟩:=h4.given h0 Z r hs gf0 hz .nothing _ _ rfl;rw[hB];rw[z];refine⟨rfl,X',ow',hr,((Gw.drew.trans Gw.drew).trans ⟨v.mono (λk e=>by rw[(f k e).1];simp),λk d i ho=>.inl ⟨i,λe=>by rw[(f k e).1] at ho;cases ho⟩,λk d i=> ?_,λk d ho=> ?_⟩).trans ((I.gw h9).trans hm)⟩
  .have d:k<w.heap.size:=d;rcases i with i|i
   .exact i.1
   .subst i;exact h.owx _ _ (l d)
  .have d:k<w.heap.size:=d;show(if k=m then some 0 else if(Value.slice x s.out.length oc).ownBlock=some k then none else ow k)=none;rw[fb (λe=>by subst e;rw[l d] at ho;cases ho),fb (λe=>by rw[(f k e).1] at ho;cases ho)];exact ho
theorem On(t:al)(w:aa):cl 50 #[.nilIface,t] w (bD (.bool false) w):=by
 go_enter func50,ntmps50;go_wp2;go_ret;exact⟨rfl,rfl⟩
theorem Nf(w:aa)(M:Nat)(n:Int)(c:n<0\/100000<n):cl 37 #[Pt M,Jn n] w (bD (.tuple #[Jn 0,Jn 11]) w):=by
 by_cases b:n<0
 .go_enter func37,ntmps37;go_wp2;go_ret2;exact⟨rfl,rfl⟩
 .have h1:100000<n:=by omega
  go_enter func37,ntmps37;go_wp2;go_ret2;exact⟨rfl,rfl⟩
def PT(P:aa->Prop)(m:Nat)(e:bo)(w':aa):Prop:=e=.returned (.tuple #[Jn (m:Nat),Jn 0])/\∃w1,P w1/\Below w1.heap.size w1 w'
theorem Ea(w:aa)(M n m:Nat)(h:n<=100000)(P:aa->Prop)(d:Hid (cl 49 #[Pt M,Jn n] w λe w'=>e=.returned (.tuple #[Jn (m:Nat),.nilIface])/\P w')):
  cl 37 #[Pt M,Jn n] w (PT P m):=by
 have g:¬((n:Int)<0):=by omega
 have h1:¬((100000:Int)<(n:Int)):=by omega
 have c:=ag On;go_enter func37,ntmps37;go_wp2_with fail;refine d.out.mono ?_;rintro e w1 ⟨rfl,b⟩;have f:=ag b;clear b;go_wp2_with fail;refine(c.out _ _).mono ?_;rintro e w2 ⟨rfl,rfl⟩;go_wp2;go_ret2;exact⟨rfl,w1,f.out,aR _ _⟩
def IW(st er a:Int)(b:ao):al:=.agg #[.int .i64 st,.int .i64 er,.int .i64 a,.string b]
def qF(w:aa)(st er a:Int)(b:ao)(e:bo)(w':aa):Prop:=e=.returned (IW st er a b)/\Below w.heap.size w w'
theorem IY(w:aa)(M E:Nat)(d:Int)(c:M<w.heap.size)(h:E<w.heap.size)(f:Cl w M 8 (Jn 0))(k6:Cl w M 6 (Pt E))(g:Cl w E 1 (Jn d)):
  cl 38 #[Pt M] w (qF w 0 0 d ⟨#[]⟩):=by
 have b:=ag (λo=>gM (w.alloc o) M 0 ((kn _ _ _ c).trans f));go_enter func38,ntmps38;go_wp2_with fail;refine(b.out _).mono ?_;rintro e w1 ⟨rfl,rfl⟩;go_wp2;refine ff (R3 rfl _ _ w.heap.size 52 #[Jn 0,Jn 0,Jn d,.string ⟨#[]⟩] (0,0) _ rfl (fK _ _) underlying52 rfl (by kernel_rfl)) rfl ?_;exact⟨rfl,aR _ _⟩
theorem IX(w:aa)(M:Nat)(st er de:Int)(va:ao)(b:(st==0)=false)(d:M<w.heap.size)(f:Cl w M 8 (Jn st))(g:Cl w M 9 (Jn er))(k10:Cl w M 10 (Jn de))(k11:Cl w M 11 (.string va)):
  cl 38 #[Pt M] w (qF w st er de va):=by
 have c:Hid (∀o,cl 52 #[Pt M] (w.alloc o) (bD (.bool false) (w.alloc o))):=by
  intro o;have:=gM (w.alloc o) M st ((kn _ _ _ d).trans f);rw[b] at this;exact this
 go_enter func38,ntmps38;go_wp2_with fail;refine(c.out _).mono ?_;rintro e w1 ⟨rfl,rfl⟩;go_wp2;refine ff (R3 rfl _ _ w.heap.size 52 #[Jn st,Jn er,Jn de,.string va] (0,0) _ rfl (fK _ _) underlying52 rfl (by kernel_rfl)) rfl ?_;exact⟨rfl,aR _ _⟩
def Eu(w:aa)(xs:a7)(e:bo)(w':aa):Prop:=∃v,e=.returned v/\w'.ownsRow w.heap.size 9 1 v xs.length xs/\Below w.heap.size w w'
theorem Hn{w:aa}(h:w.ownsRow B 9 1 u o.length (o.map bO))(y:o.length<=40):cl 103 #[u] w (Eu w (o.map bO)):=by
 have c:(o.map bO).length=o.length:=by simp
 rcases h.2 with⟨rfl,m⟩|⟨g,d,l,rfl,_,r,h1,h2,h3,p⟩
 .have ho:o=[]:=R9 m;subst ho;refine(slices_Clone_string_nil 0 0 w).mono ?_;rintro e w' ⟨rfl,rfl⟩;exact⟨_,rfl,oh _ _ _ _,fL _ _⟩
 .have:=slices_Clone_string g 0 o.length d (o.map λs=>(⟨s.toArray⟩:ao)) w (by simp) (by omega) (λj x=>by
   unfold Cl;rw[C4,ae r,<-C1];have b:j<o.length:=by simpa using x
   have i:(l.toList.take (o.length *1))[j]? =some (bO o[j]):=by rw[p];simp[b]
   rw[Bk,fN (by omega)] at i;rw[i];simp[bO,b])
  refine this.mono ?_;rintro e w' ⟨v,rfl,f,_,hb⟩;refine⟨v,rfl,?_,hb⟩;rw[c];have q:((o.map λs=>(⟨s.toArray⟩:ao)).take o.length).map Value.string=o.map bO:=by
   rw[s9 (by simp),List.map_map];rfl
  rw[q] at f;exact f
theorem Fv{w:aa}{n c:Nat}(j:Cl w M 7 (.slice a n c))(h:w.ownsRow B 9 1 (.slice a n c) o.length (o.map bO))(g:o.length<=40):cl 62 #[Pt M] w (Eu w (o.map bO)):=by
 have f:=ag (Hn h g);clear h;go_enter func62,ntmps62;go_wp2_with fail;refine f.out.mono ?_;rintro e w1 ⟨v,rfl,b,hb⟩;rw[ta] at b;have d:=ag (ei b hb);obtain⟨i,c1,rfl,_,_,_⟩:=ay b;clear b hb;go_wp2;go_ret;exact⟨_,rfl,by rw[ta];exact d.out.1,d.out.2⟩
theorem MR.below{w:aa}{X:a9}{b:Nat}(h:MR B K w X ow M b C s)(hb:Below w.heap.size w w'):MR B K w' X ow M b C s:=by
 obtain⟨mo,mf,val,app,args,out,top,gf,c,d⟩:=h;exact⟨mo,mf,val,app,args,out,top,gf,by rw[hb.block M (ai c)];exact c,d.below c hb⟩
theorem ME.below{w:aa}{X:a9}{b:Nat}{st:Int}(h:ME B w X ow M b st er de va o)(hb:Below w.heap.size w w'):ME B w' X ow M b st er de va o:=by
 obtain⟨out,e,ho,i,d,hm,j⟩:=h;have d7:B<=w.heap.size:=by have:=(d M (i M 0 hm)).1;have:=ai e;omega
 refine⟨out,by rw[hb.block M (ai e)];exact e,ho.ak (λk c f g=>⟨f,by rw[hb.block k (ai g)];exact g⟩),i,λk f=> ?_,hm,j.below (hb.mono d7)⟩;obtain⟨h1,c,T,h2,h3⟩:=d k f;exact⟨h1,c,T,by rw[hb.block k (ai h2)];exact h2,h3⟩
theorem Gw.below{X:a9}{w:aa}(h:Gw X ow w X' ow' w1)(hb:Below w1.heap.size w1 w2):Gw X ow w X' ow' w2:=h.trans ⟨TW _ hb,λ_ _ h _=>h,λ_ _ h=>h,λ_ _ h=>h⟩
def PU(B K:Nat)(X:a9)(ow:Nat->Option Nat)(w:aa)(M b:Nat)(C:Cd)(w':aa):RR->Prop
 |.run s'=>∃X' ow',MR B K w' X' ow' M b C s'/\Gw X ow w X' ow' w'
 |.done t o=>∃X' ow',ME B w' X' ow' M b 1 0 0 t o/\Gw X ow w X' ow' w'
 |.err _ _ _=>False
def QV(B K:Nat)(X:a9)(ow:Nat->Option Nat)(w:aa)(M b:Nat)(C:Cd)(r:Nat×RR)(e:bo)(w':aa):Prop:=e=.returned (.tuple #[Jn (r.1:Nat),Jn 0])/\PU B K X ow w M b C w' r.2
theorem JT{w:aa}{X:a9}{b:Nat}(h:MR B K w X ow M b C s)(n fuel:Nat)(g:n<=100000)(m:Nat)(c:RR)(j:kI C fuel s n 0=some (m,c))(f:∀er d o,c≠.err er d o):
  cl 37 #[Pt M,Jn n] w (QV B K X ow w M b C (m,c)):=by
 have i:=DI Hy h n fuel g (m,c) j;refine(Ea w M n m g (λw1=>PU B K X ow w M b C w1 c) (ag (i.mono ?_))).mono ?_
 .rintro e w' ⟨ev,rfl,hR⟩;cases c with
  |run s'=>obtain⟨rfl,hR⟩:=hR;exact⟨rfl,hR⟩
  |done t o=>obtain⟨rfl,hR⟩:=hR;exact⟨rfl,hR⟩
  |err er d o=>exact absurd rfl (f er d o)
 .rintro e w' ⟨rfl,w1,hR,hb⟩;refine⟨rfl,?_⟩;cases c with
  |run s'=>obtain⟨X',ow',h1,h2⟩:=hR;exact⟨X',ow',h1.below hb,h2.below hb⟩
  |done t o=>obtain⟨X',ow',h1,h2⟩:=hR;exact⟨X',ow',h1.below hb,h2.below hb⟩
  |err er d o=>exact absurd rfl (f er d o)
def LM(w:aa)(L M:Nat):Prop:=w.heap[L]? =some (Obj.cells #[aD M] 75 (0,0))
def Ev(w:aa)(B b:Nat)(a:a9)(C:Cd)(e:bo)(w':aa):Prop:=∃L X ow,e=.returned (Pt L)/\w.heap.size<=L/\LM w' L w.heap.size/\MR B w.heap.size w' X ow w.heap.size b C (gT C)/\Gw a (λ_=>none) w X ow w'
theorem Ke(w:aa)(B b j:Nat)(g:a9)(C:Cd)(p:w.heap[j]? =some (.cells #[Pt b] 89))(i:Code w.heap.size w g b C)(r:mu w B g)(q:Tab B w)(hB:B<=w.heap.size):
  cl 30 #[Pt j] w (Ev w B b g C):=by
 have c0:=ae p 0;simp only[fD,fy] at c0;have l:Hid (cl 42 #[Pt b] w (Dn w w.heap.size b C)):=by
  obtain⟨c,u0,u1,u2,u3,x1,x3,h⟩:=i;exact OW w w.heap.size b C u2 (ai h.hS) (by unfold Cl;rw[ae h.hS];exact h.c2) h.r2.1 h.ln
 have m:=ag (λ(w2:aa) (hp:mB (w.alloc (zK b)) w.heap.size w.heap.size C (.returned (Pt (w.heap.size+1))) w2)=>OY i r q hB hp);clear p i r q;go_enter func30,ntmps30;go_wp2_with fail;refine l.out.mono ?_;rintro e w1 ⟨rfl,w2,hp,d⟩;have f:=m.out w2 hp;rw[<-d] at f;have v:=ag f;clear hp d m l f;go_wp2;go_ret;obtain⟨X,ow,h1,h2⟩:=v.out;have x:=h2.upd.size;exact⟨w1.heap.size,X,ow,rfl,x,n6,h1.below (aR _ _),h2.below (aR _ _)⟩
def Ex(P:al->al->aa->Prop)(e:bo)(w':aa):Prop:=∃a b,e=.returned (.tuple #[a,b])/\P a b w'
theorem DR(w:aa)(L M:Nat)(n:Int)(P:al->al->aa->Prop)(c:LM w L M)(H:Hid (cl 37 #[Pt M,Jn n] w (Ex P))):
  cl 27 #[Pt L,Jn n] w (Ex P):=by
 have c0:=ae c 0;simp only[fD,fy] at c0;unfold aD at c0;clear c;go_enter func27,ntmps27;go_wp2_with fail;refine H.out.mono ?_;rintro e w1 ⟨a,b,rfl,d⟩;have f:=ag d;clear d H;go_wp2;go_ret2;exact⟨a,b,rfl,f.out⟩
theorem zJ(w:aa)(L M:Nat)(st er de:Int)(va:ao)(c:LM w L M)(H:Hid (∀o,cl 38 #[Pt M] (w.alloc o) (qF (w.alloc o) st er de va))):
  cl 28 #[Pt L] w (qF w st er de va):=by
 have c0:=ae c 0;simp only[fD,fy] at c0;unfold aD at c0;have l:=ai c;clear c;go_enter func28,ntmps28;go_wp2_with fail;refine(H.out _).mono ?_;rintro e w1 ⟨f,hb⟩;unfold IW at f;subst f;have r:=hb.size;have b:=(hb.block w.heap.size (by simp)).trans n6;have i:=ae b 0;have j:=ae b 1;have e2:=ae b 2;have e3:=ae b 3;have f0:=ah b 0;have m:=ah b 1;have p:=ah b 2;have q:=ah b 3;simp only[fD,fy,km] at i j e2 e3;have h:=ag b;have g:=ag hb;clear b hb H;go_wp2;refine ff (R3 rfl _ _ w.heap.size 52 #[Jn st,Jn er,Jn de,.string va] (0,0) _ rfl (TH (TH (TH (TH h.out)))) underlying52 rfl (by kernel_rfl)) rfl ?_;have d:Below w.heap.size w w1:=((fL _ w).alloc (ew _) _).trans (g.out.mono (by simp));exact⟨rfl,(((d.setCell (ew _) _).setCell (ew _) _).setCell (ew _) _).setCell (ew _) _⟩
theorem Mr(w:aa)(L M:Nat)(xs:a7)(d:LM w L M)(H:Hid (cl 62 #[Pt M] w (Eu w xs))):
  cl 43 #[Pt L] w (Eu w xs):=by
 have c0:=ae d 0;simp only[fD,fy] at c0;unfold aD at c0;clear d;go_enter func43,ntmps43;go_wp2_with fail;refine H.out.mono ?_;rintro e w1 ⟨v,rfl,b,hb⟩;have c:=ag (ei b hb);obtain⟨a,f,rfl,_,_,_⟩:=ay b;clear b hb H;go_wp2;go_ret;exact⟨_,rfl,c.out.1,c.out.2⟩
theorem qR(n:Nat):∀(ds:List D) (i k:Nat) (b:k<=ds.length),(∀j (e:j<k),aG n (ds[j]'(by omega))=true)->dX n i ds=dX n (i+k) (ds.drop k)
 |ds,i,0,_,_=>by simp
 |[],i,k+1,b,_=>absurd b (by simp)
 |d::r,i,k+1,b,h=>by
  have c:=h 0 (by omega);simp at c;rw[dX,fN c,qR n r (i+1) k (by simpa using b) (λj e=>by have:=h (j+1) (by omega);simpa using this)];simp only[yd]
  congr 1;omega
theorem EC(aH:List D)(opens:List (Bool×List D))(e:Int)(h:nV aH opens=.inl e):e≠0:=by
 unfold nV at h;split at h<;>first|(cases h;done)|(cases h;decide)|(split at h<;>first|(cases h;done)|(cases h;decide))
theorem Kh(aH:List D)(opens:List (Bool×List D))(t:au)(e:Int)(h:bJ aH opens t=.inl e):e≠0:=by
 unfold bJ at h;split at h
 .split at h
  .cases h;decide
  .cases h
 split at h
 .split at h
  .cases h;decide
  .cases h
 split at h
 .exact EC _ _ _ h
 split at h
 .split at h
  .cases h;decide
  .cases h
 .cases h;decide
theorem yY:∀(l:List Pc) (st:List D×List (Bool×List D)) (e:Int) (p:Nat),gK l st=.inl (e,p)->e≠0
 |[],st,e,p,h=>by cases h
 |x::r,st,e,p,h=>by
  unfold gK at h;split at h
  .rename_i er b
   cases h;exact Kh _ _ _ _ b
  .exact yY r _ e p h
theorem EI(s:ao)(e:Int)(p:Nat)(h:fY s=.inl (e,p)):e≠0:=by
 unfold fY at h;split at h
 .split at h
  .rename_i er b
   cases h;exact yY _ _ _ _ b
  .split at h
   .cases h
   .cases h;decide
 .cases h;decide
def Gv(w:aa)(B C:Nat)(a:List E):Prop:=
 ∃b,w.heap[C]? =some (Obj.cells #[Pt b] 89 (0,0))/\B<=C/\Bd w B b (dY a)
def GG(ch:aa->a7->List D->List D->Prop)(l:au)(w:aa)(e:bo)(w':aa):Prop:=
 ∃v:a8,e=.returned (.tuple #[.pointer v,Jn (fH l).1,Jn (fH l).2])/\(v.isSome=((fH l).1==0))/\Below w.heap.size w w'/\(∀a,v=some a->∃B C c w1 vs f b,a=⟨C,0,none⟩/\l.length<=1000/\dz (l.length+1) l 0 []=.inr f/\Below w.heap.size w w1/\Below w1.heap.size w1 w'/\cH w1 21 vs f/\qh w1 w.heap.size vs w1.heap.size/\ch w1 vs f b/\bF (aN 21) b=some c/\w1.heap.size<=B/\Gv w' B C c)
theorem rk(f:D->Option E)(ds:List D)(b:List E)(h:bF f (ds.take ds.length)=some b):bF f ds=some b:=by rwa [xp] at h
theorem Em:∀(ds:List D),ds.length<=fT ds
 |[]=>ew _
 |d::r=>by have:=Em r;have:=ez d;simp only[fT,j1];omega
theorem By(ch:aa->a7->List D->List D->Prop)(hc:∀w1 vs f,cH w1 21 vs f->∃f',ch w1 vs f f'/\cH w1 21 vs f'/\dX 21 0 f'=dX 21 0 f/\fT f'=fT f)(s:ao)(J:s.size<=maxLen)(w:aa)(hm:MaxOk w):cl 29 #[.string s] w (GG ch s.data.toList w):=by
 have HD:=ag (Ht s J w hm);have R:=ag (EI s);obtain⟨i0,hi,hp,hq,ht⟩:=sv rK;have HI:=ag (ei hi (ei hp (ei hq ht)));clear hm hi hp hq ht;go_enter func29,ntmps29;go_wp2_with fail;refine HD.out.mono ?_;rintro e w1 ⟨E,h1,h2⟩;cases hr:fY s with
 |inl ep=>
  obtain⟨er,pp⟩:=ep;have Y:=h1 er pp hr;subst Y;have W:=R.out er pp hr;have bne0:(er !=0)=true:=by rw[SC];exact W
  have F:Hid (fH s.data.toList=(er,(pp:Int))):=by
   show _=_;unfold fH;by_cases hs:s.size<=1000
   .rw[pe s hs] at hr;rw[fb (by simp;omega)];have:s.data.toList.length=s.size:=by simp
    rw[this,hr]
   .unfold fY at hr;rw[Tk hs] at hr;cases hr;rw[fN (by simp;omega)];rfl
  have N:=ag E;have hE:=ag W;clear h1 h2 hr W E R;go_wp2
  go_ret3
  exact⟨none,by rw[F.out];rfl,by rw[F.out];have:=hE.out;simp[this],N.out,λa h=>by cases h⟩
 |inr f0=>
  have hs:s.size<=1000:=by
   unfold fY at hr;split at hr
   .assumption
   .cases hr
  obtain⟨v,vs,rfl,L,c,hl⟩:=h2 f0 hr;rw[pe s hs] at hr;have z:s.data.toList.length=s.size:=by simp
  have F:Hid (fH s.data.toList=match dX 21 0 f0 with|some i=>(4,(i:Int))|none=>(0,0)):=by show _=_;unfold fH;rw[fb (by rw[z];omega),z,hr];rfl
  have h0:=ag (show s.data.toList.length<=1000/\dz (s.data.toList.length+1) s.data.toList 0 []=.inr f0 from⟨by omega,by rw[z];exact hr⟩);have U:=ag (show fT f0<=8000 from by have:=sw _ _ _ _ _ (kc _) hr;rw[z] at this;simp[fT] at this;omega);obtain⟨f,ha,I,h9,hn⟩:=hc w1 vs f0 c;rw[<-h9] at F;rw[<-hn] at U;have O:=ag (ei c (ei hl ha));clear c hl ha h9 hn hr;obtain⟨a,hN,rfl,hO,hJ,h7⟩:=dx (bT.q L) I;have hQ:f.length<=8000:=by have:=Em f;have:=U.out;omega
  have N:=ag E;have hx:=ag h7;unfold maxLen at hJ;clear h1 h2 E L I h7 z R hs J hc;go_wp2
  go_loopw [8,25] (λu i wr=>∃k:Nat,k<=f.length/\i=Jn k/\vz w1 21 f u wr k) (λ_ i _=>f.length-(intOf i).toNat)
  case atStart=>exact⟨0,kc _,rfl,⟨[],[],rfl,rfl,oh _ _ _ _,.nil⟩,fL _ _,λj _ h=>absurd h (by omega)⟩
  case round=>
   obtain⟨k,hk,rfl,⟨es,m,hm,hd,hr,Y⟩,hb,X⟩:=hrel;have hI:=hb.size;have hP:es.length<=8000:=by omega
   have hB:=ag hd;clear hd;have H2:=ag hr;have HE:=ag Y;have r:=ag hb;have T:=ag X;have HM:=ag hm;by_cases hlt:k<f.length
   .obtain⟨g,hv,rfl,hg,t,x,hf,c0⟩:=hx.out k hlt;have d0:wr.cell? (dq g (hv+k))=some (.iface t x):=by rw[hb.cell (p:=(dq g (hv+k))) hg];exact c0
    have h5:=ag (IV.ak (TX hb) _ _ _ hf);clear hf hb c0 hr Y X hm;obtain⟨a2,cap2,rfl,_,_,_⟩:=ay H2.out;cases hex:aG 21 f[k] with
    |false=>
     have l:Hid (dX 21 0 f=some k):=by
      show _=_;rw[qR 21 f 0 k (by omega) (λj hj=>T.out j (by omega) hj),K1 hlt,dX,fb (by simp[hex]),C4]
     have S:=ag hex.symm;clear hex;go_wp2_with fail;refine(wT 21 f[k] (.iface t x) _ false h5.out S).mono ?_;rintro e w2 ⟨⟨u,rfl,_⟩,b⟩;have hz:=ag (r.out.trans (b.mono r.out.size));clear b;go_wp2
     go_ret3
     exact⟨none,by rw[F.out,l.out];rfl,by rw[F.out,l.out];rfl,N.out.trans (hz.out.mono N.out.size),λa h=>by cases h⟩
    |true=>
     have S:=ag hex.symm;have h4:=ag hex;clear hex;go_wp2_with fail;refine(wT 21 f[k] (.iface t x) _ true h5.out S).mono ?_;rintro e w2 ⟨⟨u,rfl,hu⟩,b⟩;obtain⟨m2,hh,V⟩:=hu rfl;obtain⟨t3,x3,rfl⟩:=V.form;have hC:=ag V;have hD:=ag hh;have hy:=ag b;have hG:=ag (aq H2.out (TW (λ_=>False) b) (λ_ _ h=>h));have hL:=b.size;clear V hh b hu;go_wp2_with (at_builtin;refine nl _ rfl (.tmp 38) (.tmp 40) 79 rfl w1.heap.size 83 i0 .nilIface 1 16 underlying79 HI.out.1 HI.out.2.1 HI.out.2.2.1 HI.out.2.2.2 rfl (by decide) _ es.length es rfl (hG.out.alloc _) (dq w2.heap.size 0) 1 1 [.iface t3 x3] rfl rfl (RW _ _ _) (by intro u hu;simp at hu;subst hu;rfl) (by decide) (by unfold maxLen;omega) (by omega) (by simp;omega) (w2.heap.size+1) (by simp) ?_);intro g4 cap4 w4 y d G hM;have hH:=ag (bC d);have hF:=ag y;have hw:=ag (G.imp id (λh=>by omega:_->w2.heap.size<=g4));clear y d G;go_wp2;go_roundw
     case rel=>
      exact⟨k+1,by omega,rfl,rl hlt HM.out hB.out H2.out HE.out r.out T.out hy.out hD.out hC.out h4.out hH.out hF.out hw.out⟩
     case measure=>simp[intOf];omega
   .have hK:k=f.length:=by omega
    subst hK;have l:Hid (dX 21 0 f=none):=by
     show _=_;rw[qR 21 f 0 f.length (ew _) (λj hj=>T.out j hj hj),RK];rfl
    have h6:=ag (rk _ f m hm);have Z:=ag (Hh m wr _ es ⟨ba hr (kc _),λg hg=>(ar hr hg).2⟩ (Y.imp (TY _) λg o hg ho=>⟨ho,ai ho⟩) (by have h1:=jK (nH 21) f m h6.out;have:=U.out;omega));have hA:=ag hI;obtain⟨a2,cap2,rfl,_,_,_⟩:=ay hr;clear hr Y hb X hm;go_wp2_with fail;refine Z.out.mono ?_;rintro e w5 ⟨rfl,H,h8⟩;have A:=ag (r.out.trans (h8.below.mono r.out.size));have h3:=ag H;clear h8 H Z;go_wp2
    go_ret3
    refine⟨some _,by rw[F.out,l.out];rfl,by rw[F.out,l.out];rfl,N.out.trans ((A.out.alloc A.out.size _).mono N.out.size),λa h=> ?_⟩;cases h;refine⟨wr.heap.size,w5.heap.size,m,w1,vs,f0,f,rfl,h0.out.1,h0.out.2,N.out,A.out.alloc A.out.size _,O.out.1,O.out.2.1,O.out.2.2,h6.out,hA.out,_,n6,h3.out.le,h3.out.below (aR _ _)⟩
theorem RS.Mg{K:Nat}{w:aa}{X:a9}(d:mu w B X)(ho:∀k t,ow k=some t->X k)(b:Gw X ow w X' ow' w'):KI w w':=
 KI.aT (B:=B) (λk c=>by
  cases e:ow k with
  |none=>exact absurd e c
  |some t=>exact d k (ho k t e)) b.upd
theorem MR.own{w:aa}{X:a9}{b:Nat}(h:MR B K w X ow M b C s):(∀k t,ow k=some t->X k)/\mu w B X:=by
 obtain⟨mo,mf,val,app,args,out,top,gf,d,c⟩:=h;exact⟨c.owx,c.xty⟩
theorem MR.bel{w:aa}{X:a9}{b:Nat}(h:MR B K w X ow M b C s)(d:Gw X ow w X' ow' w'):Below B w w':=by
 obtain⟨h1,h2⟩:=h.own;obtain⟨mo,mf,val,app,args,out,top,gf,g,c⟩:=h;refine d.upd.below c.d7 λk f=> ?_;cases e:ow k with
 |none=>exact absurd e f
 |some t=>exact(h2 k (h1 k t e)).1
def Stop(l:au):Prop:=∀c r,l=c::r->cY c=0
theorem EM(d:Nat)(h:d<10):(UInt8.ofNat (48+d)).toNat=48+d:=by
 rw[UInt8.toNat_ofNat'];omega
theorem ql(u k:Nat)(h:u<10^k)(f:1<=k):(Lib.decDigits u).length<=k:=by
 rw[Lib.decDigits_length];induction k generalizing u with
 |zero=>omega
 |succ k d=>
  by_cases c:u<10
  .rw[Lib.nDigits_small c];omega
  .rw[Lib.nDigits_big c];have b:1<=k:=by
    rcases Sd k with e|e
    .subst e;simp at h;omega
    .exact e
   have:=d (u/10) (by rw[TF] at h;omega) b;omega
def Od(w:aa)(s:au)(e:bo)(w':aa):Prop:=e=.returned (.string ⟨s.toArray⟩)/\Below w.heap.size w w'
theorem ri(w:aa)(u:Nat):(convert 72 9 (.slice (eb w.heap.size) 1 1)).run prog (w.alloc (.cells #[.int .u8 (48+(u:Int)%10)] 5))=.ok (.string ⟨#[UInt8.ofNat (48+u%10)]⟩) (w.alloc (.cells #[.int .u8 (48+(u:Int)%10)] 5)):=by
 have b:Lib.Bytes (w.alloc (.cells #[.int .u8 (48+(u:Int)%10)] 5)) w.heap.size 0 ⟨#[UInt8.ofNat (48+u%10)]⟩:=λi hi=>by
  have hi:i=0:=by
   have:i<1:=hi;omega
  subst hi;refine(Cb _ _ _ _ (by simp)).trans ?_;have:=EM (u%10) (by omega);show some (Value.int .u8 (48+(u:Int)%10))=some (Value.int .u8 ((UInt8.ofNat (48+u%10)).toNat:Int));rw[this]
  congr 2
 exact Lib.run_convert_whole (P:=prog) _ 72 5 9 underlying72 underlying5 underlying9 w.heap.size 0 ⟨#[UInt8.ofNat (48+u%10)]⟩ b 1
structure Env(w:aa):Prop where
 mx:MaxOk w
 tb:Tab w.heap.size w
def IntsAt(w:aa)(a:a8)(l:List Int):Prop:=(∀i (hi:i<l.length),∃g b,a=some ⟨g,b,none⟩/\g<w.heap.size/\w.cell? ⟨g,b+i,none⟩=some (Jn l[i]))/\∀k∈l,-9223372036854775808<=k/\k<=9223372036854775807
open Go.RowKit Go.Extern.Stop Go.Stop Go.Extern
theorem Kz(t:Addr)(w:aa):(ReflectliteValue.unpack (.iface 109 (.pointer (some t)))).run prog w
  =.ok (.agg #[.pointer (some (dq 7 109)),Pt w.heap.size,.int .u64 150]) (w.alloc (.cells #[.pointer (some t)] 109)):=by kernel_rfl
theorem Qs(a:Addr)(w:aa):(ReflectliteValue.methodAny (ReflectliteValue.valueError "reflectlite.Value.Type" 0) (λt _ _ _=>ReflectliteType.toType t) #[.agg #[.pointer (some (dq 7 109)),.pointer (some a),.int .u64 150]]).run prog w
  =.ok (.iface 235 (.agg #[.pointer (some (dq 7 109))])) w:=by kernel_rfl
theorem Ch(h:al)(w:aa):(Go.method 503 235 (.agg #[h]) "Kind").run prog w=.ok (279,h) w:=by kernel_rfl
theorem Cg(h:al)(w:aa):(Go.method 503 235 (.agg #[h]) "Elem").run prog w=.ok (299,.agg #[h]) w:=by kernel_rfl
theorem oz(h:al)(w:aa):(Go.method 503 235 (.agg #[h]) "Implements").run prog w=.ok (300,.agg #[h]) w:=by kernel_rfl
theorem eQ(h:al)(w:aa):(Go.method 503 235 (.agg #[h]) "AssignableTo").run prog w=.ok (297,.agg #[h]) w:=by kernel_rfl
theorem OQ(w:aa):((ReflectliteType.abiMethod λt=>(λa:Nat=>Value.int IntKind.u8 (a:Int))<$>Rtype.kind t) #[.pointer (some (dq 7 109))]).run prog w=.ok (.int .u8 22) w:=by kernel_rfl
theorem Qi(w:aa):((ReflectliteType.abiMethod λt=>(λa:Nat=>Value.int IntKind.u8 (a:Int))<$>Rtype.kind t) #[.pointer (some (dq 7 107))]).run prog w=.ok (.int .u8 25) w:=by kernel_rfl
theorem P6(w:aa):(ReflectliteType.method ReflectliteType.elem #[.agg #[.pointer (some (dq 7 109))]]).run prog w=.ok (.iface 235 (.agg #[.pointer (some (dq 7 107))])) w:=by kernel_rfl
theorem zl(w:aa):(ReflectliteType.relation "Implements" ReflectliteType.implements_ #[.agg #[.pointer (some (dq 7 107))],.iface 235 (.agg #[.pointer (some (dq 7 103))])]).run prog w=.ok (.bool true) w:=by kernel_rfl
theorem xI(v:al)(w:aa):(ReflectliteType.typeOf #[.iface 107 v]).run prog w=.ok (.iface 235 (.agg #[.pointer (some (dq 7 107))])) w:=by kernel_rfl
theorem xH(v:al)(w:aa):(ReflectliteType.typeOf #[.iface 178 v]).run prog w=.ok (.iface 235 (.agg #[.pointer (some (dq 7 178))])) w:=by kernel_rfl
theorem kB(w:aa):(ReflectliteType.relation "AssignableTo" ReflectliteType.assignableTo #[.agg #[.pointer (some (dq 7 107))],.iface 235 (.agg #[.pointer (some (dq 7 107))])]).run prog w=.ok (.bool true) w:=by kernel_rfl
theorem kA(w:aa):(ReflectliteType.relation "AssignableTo" ReflectliteType.assignableTo #[.agg #[.pointer (some (dq 7 178))],.iface 235 (.agg #[.pointer (some (dq 7 107))])]).run prog w=.ok (.bool false) w:=by kernel_rfl
theorem sP(k:Int)(w:aa):(ReflectliteValue.unpack (.iface 107 (.agg #[Jn k]))).run prog w
  =.ok (.agg #[.pointer (some (dq 7 107)),Pt w.heap.size,.int .u64 153]) (w.alloc (.cells #[Jn k] 107)):=by kernel_rfl
theorem OZ(v:al)(w:aa):(Instr.typeAssert (.iface 178 v) 103 240 true).run prog w=.ok (.tuple #[.nilIface,.bool false]) w:=run_typeAssert_lacksB underlying240 (by kernel_rfl) (by kernel_rfl) v 103 w
theorem rR(v:al)(w:aa):(Instr.typeAssert (.iface 178 v) 103 243 true).run prog w=.ok (.tuple #[.iface 178 v,.bool true]) w:=by kernel_rfl
theorem jT(v:al)(w:aa):(Go.method 503 178 v "Unwrap").run prog w=.ok (289,v) w:=by kernel_rfl
theorem Jm(a:Addr)(w:aa):(ReflectliteValue.parts (.agg #[.pointer (some (dq 7 109)),.pointer (some a),.int .u64 150])).run prog w=.ok (some (109,a,150)) w:=by kernel_rfl
theorem LK(w:aa):(Rtype.elem? 109).run prog w=.ok (some 107) w:=by kernel_rfl
theorem Ry(p:Addr)(w:aa):(ReflectliteValue.mk 107 p ReflectliteValue.flagAddr).run prog w=.ok (.agg #[.pointer (some (dq 7 107)),.pointer (some p),.int .u64 409]) w:=by kernel_rfl
theorem ML(a:Addr)(w:aa):(ReflectliteValue.parts (.agg #[.pointer (some (dq 7 107)),.pointer (some a),.int .u64 409])).run prog w=.ok (some (107,a,409)) w:=by kernel_rfl
theorem O7(a:Addr)(w:aa):(ReflectliteValue.parts (.agg #[.pointer (some (dq 7 107)),.pointer (some a),.int .u64 153])).run prog w=.ok (some (107,a,153)) w:=by kernel_rfl
theorem LG(w:aa):(Rtype.directlyAssignable 107 107).run prog w=.ok true w:=by kernel_rfl
theorem Qr(w:aa):(sizeOf 107).run prog w=.ok 1 w:=by kernel_rfl
theorem OL(a p:Addr)(W:aa)(b:W.cell? a=some (.pointer (some p))):
  (ReflectliteValue.method (ReflectliteValue.valueError "reflectlite.Value.IsNil" 0) ReflectliteValue.isNil #[.agg #[.pointer (some (dq 7 109)),.pointer (some a),.int .u64 150]]).run prog W=.ok (.bool false) W:=by
 change Sem.run prog (bind (ReflectliteValue.parts (.agg #[.pointer (some (dq 7 109)),.pointer (some a),.int .u64 150])) _) W=_
 simp only[Tm,Jm,Result.andThen];simp[ReflectliteValue.isNil,loadVar,isAgg,underlying,underlying109,b,Result.andThen]
theorem BL(a p:Addr)(W:aa)(b:W.cell? a=some (.pointer (some p))):
  (ReflectliteValue.method (ReflectliteValue.valueError "reflectlite.Value.Elem" 0) ReflectliteValue.elem #[.agg #[.pointer (some (dq 7 109)),.pointer (some a),.int .u64 150]]).run prog W
   =.ok (.agg #[.pointer (some (dq 7 107)),.pointer (some p),.int .u64 409]) W:=by
 change Sem.run prog (bind (ReflectliteValue.parts (.agg #[.pointer (some (dq 7 109)),.pointer (some a),.int .u64 150])) _) W=_
 simp only[Tm,Jm,Result.andThen];simp[ReflectliteValue.elem,loadVar,isAgg,underlying,underlying109,b,Result.andThen,LK,Ry]
theorem setW(c b:Addr)(k:Int)(old:al)(W:aa)(hb:W.cell? b=some (Jn k))(f:W.cell? c=some old)(hf:W.frozen? c=false):
  (ReflectliteValue.set #[.agg #[.pointer (some (dq 7 107)),.pointer (some c),.int .u64 409],.agg #[.pointer (some (dq 7 107)),.pointer (some b),.int .u64 153]]).run prog W
   =.ok (.tuple #[]) (W.setCell c (Jn k)):=by
 change Sem.run prog (bind (ReflectliteValue.parts (.agg #[.pointer (some (dq 7 107)),.pointer (some c),.int .u64 409])) (λ_=>bind (ReflectliteValue.parts (.agg #[.pointer (some (dq 7 107)),.pointer (some b),.int .u64 153])) _)) W=_
 simp only[Tm,ML,O7,Result.andThen];simp[ReflectliteValue.flagAddr,loadVar,isAgg,underlying,underlying107,hb,Result.andThen,LG,Qr,storeVar,Value.cells,storeCells,Addr.add];have e:Sem.run prog (loadCells b 1) W=.ok #[Jn k] W:=by
  have:=run_loadCells_list (P:=prog) W b [Jn k] (by intro j v d;cases j<;>simp at d;subst d;simpa[Addr.add] using hb);simpa using this
 rw[e];simp[storeCells,Addr.add];rw[TD prog W c _ _ (by rfl)];simp[f,hf]
theorem mh(z:ao)(t:bi)(u:al)(w:aa):cl 289 #[.agg #[.string z,.iface t u]] w (bD (.iface t u) (w.alloc (.cells #[.string z,.iface t u] 178))):=by
 go_enter func289,ntmps289;go_wp2;go_ret;exact⟨rfl,rfl⟩
def Py(w:aa)(g o:Nat)(er:Int)(e:bo)(w':aa):Prop:=e=.returned (.bool true)/\w'.cell? ⟨g,o,none⟩=some (Jn er)/\aB (λk=>k=g) w w'
theorem Oo(z:ao)(er:Int)(g o:Nat)(q:Nat)(old:al)(w:aa)(y:Cl w q 0 (.pointer (some (dq g o))))(A:Cl w g o old)(hf:w.frozen? (dq g o)=false)(d:g<w.heap.size)(i:q<w.heap.size):
  cl 80 #[.iface 178 (.agg #[.string z,.iface 107 (.agg #[Jn er])]),.iface 109 (.pointer (some (dq g o))),.agg #[.pointer (some (dq 7 109)),Pt q,.int .u64 150],.iface 235 (.agg #[.pointer (some (dq 7 107))])] w (Py w g o er):=by
 have F:= @so prog 77 _ (λargs=>ReflectliteValue.unpack (args.getD 0 (.tuple #[]))) func77 (by kernel_rfl) (by kernel_rfl) (by kernel_rfl) (by kernel_rfl);have m:= @so prog 131 _ ReflectliteType.typeOf func131 (by kernel_rfl) (by kernel_rfl) (by kernel_rfl) (by kernel_rfl);have x:= @so prog 297 _ (ReflectliteType.relation "AssignableTo" ReflectliteType.assignableTo) func297 (by kernel_rfl) (by kernel_rfl) (by kernel_rfl) (by kernel_rfl);have r:= @so prog 132 _ (ReflectliteValue.method (ReflectliteValue.valueError "reflectlite.Value.Elem" 0) ReflectliteValue.elem) func132 (by kernel_rfl) (by kernel_rfl) (by kernel_rfl) (by kernel_rfl);have v:= @so prog 133 _ ReflectliteValue.set func133 (by kernel_rfl) (by kernel_rfl) (by kernel_rfl) (by kernel_rfl);have f_typeOfI:=xH;have f_typeOfW:=xI;have f_methodAssignableTo:=eQ;have f_assignableI:=kA;have f_assignableW:=kB;have f_noAs:=OZ;have f_isUnwrap:=rR;have f_methodUnwrap:=jT;have f_valueOfW:=sP;have l:=ag (mh z 107 (.agg #[Jn er]));go_enter func80,ntmps80;go_wp2_with fail;refine Tz 2 ?_;rw[SX];go_wp2_with fail;refine(l.out _).mono ?_;rintro e w1 ⟨rfl,c⟩;have b:Below w.heap.size w w1:=by rw[c];exact((fL _ w).alloc (ew _) _).alloc (by simp) _
 have h:w1.heap[w.heap.size]? =some (.cells #[.pointer (some (dq 7 109)),Pt q,.int .u64 150] 182):=by
  rw[c,tm _ _ _ (by simp)];exact n6
 have f:w1.heap.size=w.heap.size+2:=by rw[c];simp
 have c0:=ae h 0;have c1:=ae h 1;have c2:=ae h 2;simp only[fD,fy,km] at c0 c1 c2;have n132:=BL (dq q 0) (dq g o) w1 ((b.cell (p:=(dq q 0)) i).trans y);have tg1:Cl w1 g o old:=(b.cell (p:=(dq g o)) d).trans A;have fg1:w1.frozen? (dq g o)=false:=(b.frozen (p:=(dq g o)) d).trans hf;have n133:=setW (dq g o) (dq w1.heap.size 0) er old (w1.alloc (.cells #[Jn er] 107)) ((Cb _ _ _ _ (by simp)).trans rfl) ((kn _ _ _ (by omega)).trans tg1) ((Si _ _ _ (by show g≠_;omega)).trans fg1);have j:=ag b;have D:=ag tg1;have E:=ag f;clear c b h tg1 fg1 y A hf l f;go_wp2;rw[SX];go_wp2;go_ret;have G:=E.out;refine⟨rfl,?_,?_⟩
 .have:Cl ((w1.alloc (.cells #[Jn er] 107)).setCell (dq g o) (Jn er)) g o (Jn er):=SA _ _ _ ((kn _ _ _ (by omega)).trans D.out);exact this
 .first|exact(((TW (λk=>k=g) j.out).alloc _).setCell (dq g o) _ (λ_=>rfl))|exact(((TW (λk=>k=g) j.out).setCell (dq g o) _ (λ_=>rfl)).alloc _)
theorem Op(z N:ao)(er:Int)(g o:Nat)(q:Nat)(old:al)(w:aa)(J:Cl w q 0 (.pointer (some (dq g o))))(L:Cl w g o old)(hf:w.frozen? (dq g o)=false)(j:g<w.heap.size)(A:q<w.heap.size):
  cl 80 #[.iface 178 (.agg #[.string N,.iface 178 (.agg #[.string z,.iface 107 (.agg #[Jn er])])]),.iface 109 (.pointer (some (dq g o))),.agg #[.pointer (some (dq 7 109)),Pt q,.int .u64 150],.iface 235 (.agg #[.pointer (some (dq 7 107))])] w (Py w g o er):=by
 have S:= @so prog 77 _ (λargs=>ReflectliteValue.unpack (args.getD 0 (.tuple #[]))) func77 (by kernel_rfl) (by kernel_rfl) (by kernel_rfl) (by kernel_rfl);have F:= @so prog 131 _ ReflectliteType.typeOf func131 (by kernel_rfl) (by kernel_rfl) (by kernel_rfl) (by kernel_rfl);have I:= @so prog 297 _ (ReflectliteType.relation "AssignableTo" ReflectliteType.assignableTo) func297 (by kernel_rfl) (by kernel_rfl) (by kernel_rfl) (by kernel_rfl);have G:= @so prog 132 _ (ReflectliteValue.method (ReflectliteValue.valueError "reflectlite.Value.Elem" 0) ReflectliteValue.elem) func132 (by kernel_rfl) (by kernel_rfl) (by kernel_rfl) (by kernel_rfl);have H:= @so prog 133 _ ReflectliteValue.set func133 (by kernel_rfl) (by kernel_rfl) (by kernel_rfl) (by kernel_rfl);have f_typeOfI:=xH;have f_typeOfW:=xI;have f_methodAssignableTo:=eQ;have f_assignableI:=kA;have f_assignableW:=kB;have f_noAs:=OZ;have f_isUnwrap:=rR;have f_methodUnwrap:=jT;have f_valueOfW:=sP;have E:=ag (mh z 107 (.agg #[Jn er]));have h:=ag (mh N 178 (.agg #[.string z,.iface 107 (.agg #[Jn er])]));go_enter func80,ntmps80;go_wp2_with fail;refine Tz 3 ?_;rw[SX];go_wp2_with fail;refine(h.out _).mono ?_;rintro e w0 ⟨rfl,c⟩;have m:w0.heap.size=w.heap.size+2:=by rw[c];simp
 have i:Below w.heap.size w w0:=by rw[c];exact((fL _ w).alloc (ew _) _).alloc (by simp) _
 have l:w0.heap[w.heap.size]? =some (.cells #[.pointer (some (dq 7 109)),Pt q,.int .u64 150] 182):=by
  rw[c,tm _ _ _ (by simp)];exact n6
 have x:=ag i;have y:=ag l;have f:=ag m;clear c i l m h;go_wp2;rw[SX];go_wp2_with fail;refine(E.out _).mono ?_;rintro e w1 ⟨rfl,d⟩;have b:Below w.heap.size w w1:=by rw[d];exact x.out.alloc (by have:=f.out;omega) _
 have v:w1.heap[w.heap.size]? =some (.cells #[.pointer (some (dq 7 109)),Pt q,.int .u64 150] 182):=by
  rw[d,tm _ _ _ (by have:=f.out;omega)];exact y.out
 have r:w1.heap.size=w.heap.size+3:=by rw[d];have:=f.out;simp;omega
 have c0:=ae v 0;have c1:=ae v 1;have c2:=ae v 2;simp only[fD,fy,km] at c0 c1 c2;have n132:=BL (dq q 0) (dq g o) w1 ((b.cell (p:=(dq q 0)) A).trans J);have tg1:Cl w1 g o old:=(b.cell (p:=(dq g o)) j).trans L;have fg1:w1.frozen? (dq g o)=false:=(b.frozen (p:=(dq g o)) j).trans hf;have n133:=setW (dq g o) (dq w1.heap.size 0) er old (w1.alloc (.cells #[Jn er] 107)) ((Cb _ _ _ _ (by simp)).trans rfl) ((kn _ _ _ (by omega)).trans tg1) ((Si _ _ _ (by show g≠_;omega)).trans fg1);have D:=ag b;have O:=ag tg1;have R:=ag r;clear d b v tg1 fg1 J L hf E r;go_wp2;rw[SX];go_wp2;go_ret;have T:=R.out;refine⟨rfl,?_,?_⟩
 .have:Cl ((w1.alloc (.cells #[Jn er] 107)).setCell (dq g o) (Jn er)) g o (Jn er):=SA _ _ _ ((kn _ _ _ (by omega)).trans O.out);exact this
 .first|exact(((TW (λk=>k=g) D.out).alloc _).setCell (dq g o) _ (λ_=>rfl))|exact(((TW (λk=>k=g) D.out).setCell (dq g o) _ (λ_=>rfl)).alloc _)
theorem Ln(er:Int)(g o:Nat)(q:Nat)(old:al)(w:aa)(v:Cl w q 0 (.pointer (some (dq g o))))(x:Cl w g o old)(hf:w.frozen? (dq g o)=false)(d:g<w.heap.size)(h:q<w.heap.size):
  cl 80 #[.iface 107 (.agg #[Jn er]),.iface 109 (.pointer (some (dq g o))),.agg #[.pointer (some (dq 7 109)),Pt q,.int .u64 150],.iface 235 (.agg #[.pointer (some (dq 7 107))])] w (Py w g o er):=by
 have A:= @so prog 77 _ (λargs=>ReflectliteValue.unpack (args.getD 0 (.tuple #[]))) func77 (by kernel_rfl) (by kernel_rfl) (by kernel_rfl) (by kernel_rfl);have j:= @so prog 131 _ ReflectliteType.typeOf func131 (by kernel_rfl) (by kernel_rfl) (by kernel_rfl) (by kernel_rfl);have r:= @so prog 297 _ (ReflectliteType.relation "AssignableTo" ReflectliteType.assignableTo) func297 (by kernel_rfl) (by kernel_rfl) (by kernel_rfl) (by kernel_rfl);have l:= @so prog 132 _ (ReflectliteValue.method (ReflectliteValue.valueError "reflectlite.Value.Elem" 0) ReflectliteValue.elem) func132 (by kernel_rfl) (by kernel_rfl) (by kernel_rfl) (by kernel_rfl);have m:= @so prog 133 _ ReflectliteValue.set func133 (by kernel_rfl) (by kernel_rfl) (by kernel_rfl) (by kernel_rfl);have f_typeOfI:=xH;have f_typeOfW:=xI;have f_methodAssignableTo:=eQ;have f_assignableI:=kA;have f_assignableW:=kB;have f_noAs:=OZ;have f_isUnwrap:=rR;have f_methodUnwrap:=jT;have f_valueOfW:=sP;go_enter func80,ntmps80;go_wp2_with fail;obtain⟨w1,c⟩:∃w1,w1=w.alloc (.cells #[.pointer (some (dq 7 109)),Pt q,.int .u64 150] 182):=⟨_,rfl⟩;rw[<-c];have b:Below w.heap.size w w1:=by rw[c];exact(fL _ w).alloc (ew _) _
 have f:w1.heap[w.heap.size]? =some (.cells #[.pointer (some (dq 7 109)),Pt q,.int .u64 150] 182):=by
  rw[c];exact n6
 have e:w1.heap.size=w.heap.size+1:=by rw[c];simp
 have c0:=ae f 0;have c1:=ae f 1;have c2:=ae f 2;simp only[fD,fy,km] at c0 c1 c2;have n132:=BL (dq q 0) (dq g o) w1 ((b.cell (p:=(dq q 0)) h).trans v);have tg1:Cl w1 g o old:=(b.cell (p:=(dq g o)) d).trans x;have fg1:w1.frozen? (dq g o)=false:=(b.frozen (p:=(dq g o)) d).trans hf;have n133:=setW (dq g o) (dq w1.heap.size 0) er old (w1.alloc (.cells #[Jn er] 107)) ((Cb _ _ _ _ (by simp)).trans rfl) ((kn _ _ _ (by omega)).trans tg1) ((Si _ _ _ (by show g≠_;omega)).trans fg1);have i:=ag b;have y:=ag tg1;have z:=ag e;clear c b f tg1 fg1 v x hf e;refine Tz 1 ?_;rw[SX];go_wp2;go_ret;have D:=z.out;refine⟨rfl,?_,?_⟩
 .have:Cl ((w1.alloc (.cells #[Jn er] 107)).setCell (dq g o) (Jn er)) g o (Jn er):=SA _ _ _ ((kn _ _ _ (by omega)).trans y.out);exact this
 .first|exact(((TW (λk=>k=g) i.out).alloc _).setCell (dq g o) _ (λ_=>rfl))|exact(((TW (λk=>k=g) i.out).setCell (dq g o) _ (λ_=>rfl)).alloc _)
theorem Om{v:al}(b:pH er k v)(j:k<=2)(g o:Nat)(q:Nat)(old:al)(w:aa)(f:Cl w q 0 (.pointer (some (dq g o))))(h:Cl w g o old)(hf:w.frozen? (dq g o)=false)(c:g<w.heap.size)(d:q<w.heap.size):
  cl 80 #[v,.iface 109 (.pointer (some (dq g o))),.agg #[.pointer (some (dq 7 109)),Pt q,.int .u64 150],.iface 235 (.agg #[.pointer (some (dq 7 107))])] w (Py w g o er):=by
 match k,j,b with
 |0,_,b=>
  have b:v=dR er:=b;subst b;exact Ln er g o q old w f h hf c d
 |1,_,⟨z,u,b,e⟩=>
  have e:u=dR er:=e;subst b e;exact Oo z er g o q old w f h hf c d
 |2,_,⟨l,u2,b,z,u,i,e⟩=>
  have e:u=dR er:=e;subst b i e;exact Op z l er g o q old w f h hf c d
theorem pH.shape:∀{k:Nat} {v:al},pH er k v->∃t x,v=.iface t x
 |0,_,h=>⟨_,_,h⟩
 |_+1,_,⟨_,_,h,_⟩=>⟨_,_,h⟩
theorem Pz{v:al}(d:pH er k v)(J:k<=2)(g:Nat)(old:al)(w:aa)(L:Cl w 0 0 (.iface 235 (.agg #[.pointer (some ⟨7,103,none⟩)])))(I:0<w.heap.size)(r:Cl w g 0 old)(hf:w.frozen? ⟨g,0,none⟩=false)(c:g<w.heap.size):
  cl 50 #[v,.iface 109 (Pt g)] w (Py w g 0 er):=by
 obtain⟨t,x,rfl⟩:=d.shape;have b:=ag (λ(q:Nat) (W:aa) h1 h2 h3 D E=>Om d J g 0 q old W h1 h2 h3 D E);have F:= @so prog 77 _ (λargs=>ReflectliteValue.unpack (args.getD 0 (.tuple #[]))) func77 (by kernel_rfl) (by kernel_rfl) (by kernel_rfl) (by kernel_rfl);have G:= @so prog 78 _ (ReflectliteValue.methodAny (ReflectliteValue.valueError "reflectlite.Value.Type" 0) (λt _ _ _=>ReflectliteType.toType t)) func78 (by kernel_rfl) (by kernel_rfl) (by kernel_rfl) (by kernel_rfl);have H:= @so prog 79 _ (ReflectliteValue.method (ReflectliteValue.valueError "reflectlite.Value.IsNil" 0) ReflectliteValue.isNil) func79 (by kernel_rfl) (by kernel_rfl) (by kernel_rfl) (by kernel_rfl);have i:= @so prog 279 _ (ReflectliteType.abiMethod λt=>do pure (.int .u8 (<-Rtype.kind t))) func279 (by kernel_rfl) (by kernel_rfl) (by kernel_rfl) (by kernel_rfl);have l:= @so prog 299 _ (ReflectliteType.method ReflectliteType.elem) func299 (by kernel_rfl) (by kernel_rfl) (by kernel_rfl) (by kernel_rfl);have m:= @so prog 300 _ (ReflectliteType.relation "Implements" ReflectliteType.implements_) func300 (by kernel_rfl) (by kernel_rfl) (by kernel_rfl) (by kernel_rfl);have f_valueOfP:=Kz;have f_typeP:=Qs;have f_methodKind:=Ch;have f_methodElem:=Cg;have f_methodImplements:=oz;have f_kindPw:=OQ;have f_kindW:=Qi;have f_elemP:=P6;have f_implementsW:=zl;have n79:=OL ⟨w.heap.size,0,none⟩ ⟨g,0,none⟩ ((w.alloc (.cells #[.pointer (some ⟨g,0,none⟩)] 109)).alloc (.cells #[.pointer (some ⟨7,109,none⟩),.pointer (some ⟨w.heap.size,0,none⟩),.int .u64 150] 182)) (by simp);have A:=ag r;have z:=ag hf;clear d r hf;go_enter func50,ntmps50;go_wp2_with fail;refine(b.out w.heap.size _ (by simp[Cl]) ((kn _ _ _ (by simp;omega)).trans ((kn _ _ _ c).trans A.out)) ((Si _ _ _ (by show g≠_;simp;omega)).trans ((Si _ _ _ (by show g≠_;omega)).trans z.out)) (by simp;omega) (by simp;omega)).mono ?_;rintro e w1 ⟨rfl,p,y⟩;have f:=ag (ei p y);clear p y;go_wp2;go_ret;exact⟨rfl,f.out.1,((((TU (λk=>k=g) w).alloc _).alloc _).trans f.out.2 (λj _ h=>h))⟩
end Go.Proofs.YtlobegpjenabaaaGreatDoor
