import Derived.Test.YtlobegpjenabaaaGreatDoorT09
namespace Go.Proofs.YtlobegpjenabaaaGreatDoor
open Go.RowKit Tryz
set_option linter.unusedVariables false
set_option linter.defProp false
set_option maxRecDepth 100000
set_option maxHeartbeats 4000000
def CC:=@List.getElem?_eq_none
def Tv:=@Nat.le_add_left
variable {P:a9} {ks:List E} {es x1 x3 us:a7} {B m g i cap n:Nat} {u u0 u1 u2 u5:al} {f:D->Option E} {mk:au->E->E}
open Go.RowKit Go.Maps
def dB(op2:Int):List E->Int->BS->BS
 |[],_,st=>st
 |e::r,op,st=>dB op2 r op2 (eJ op e st)
def Jh(op op2:Int)(k:Nat):Int:=if k=0 then op else op2
theorem t7:∀(es:List E) (op:Int) (st:BS),fE es op st=dB 5 es op st
 |[],op,st=>rfl
 |e::r,op,st=>by rw[fE,dB,t7 r];rfl
theorem mq(op2:Int):∀(l:List E) (e:E) (op:Int) (st:BS),dB op2 (l++[e]) op st=eJ (Jh op op2 l.length) e (dB op2 l op st)
 |[],e,op,st=>rfl
 |a::r,e,op,st=>by
  rw[s6,dB,mq op2 r e op2,dB];cases r<;>rfl
theorem uY:∀(l:List E) (e:E) (op:Int) (last:Bool) (st:BS),eS (l++[e]) op last st=aL e last (am (dB 6 l op st) 7 0)
 |[],e,op,last,st=>rfl
 |a::r,e,op,last,st=>by
  have h:eS (a::(r++[e])) op last st=eS (r++[e]) 6 last (eJ op a st):=by
   cases r<;>rfl
  rw[s6,h,uY r e 6,dB]
theorem sm(op:Int)(e:E)(st:BS):(eJ op e st).eh<=st.eh+8 *cJ e:=by
 have:=dI e false (am st op 0);rw[bu] at this;unfold eJ;rw[eq];omega
theorem oL(op2:Int):∀(es:List E) (op:Int) (st:BS),(dB op2 es op st).eh<=st.eh+8 *bG es
 |[],op,st=>by simp only[dB];omega
 |e::r,op,st=>by
  have h1:=sm op e st;have h2:=oL op2 r op2 (eJ op e st);simp only[dB,bG];omega
theorem jA:∀(ks:List E) (k:Nat) (a:k<ks.length),bG (ks.take k)+cJ ks[k]<=bG ks
 |[],k,a=>absurd a (by simp)
 |e::r,0,a=>by simp[bG]
 |e::r,k+1,a=>by
  have:=jA r k (by simpa using a);simp only[Te,bG,List.getElem_cons_succ];omega
theorem nG:∀(ks:List E),ks.length<=bG ks
 |[]=>ew _
 |e::r=>by have:=nG r;have:=qx e;simp only[j1,bG];omega
theorem ii.at{w:aa}(h:ii w P ks es):∀k (d:k<es.length) (c:k<ks.length),EV w P ks[k] es[k]:=by
 induction es generalizing ks with
 |nil=>intro k d;exact absurd d (by simp)
 |cons e r j=>
  cases h with
  |cons a b=>
   intro k d c;cases k with
   |zero=>exact a
   |succ k=>exact j b k (by simpa using d) (by simpa using c)
theorem xl{w:aa}(j:mC w (λg=>g<B) u es)(e:ii w (λg=>g<B) ks es):∃a cap,u=.slice a ks.length cap/\ks.length<=cap/\cap<=maxLen/\
  ∀k (h:k<ks.length),∃g t x,a=eb g/\g<B/\Cl w g k (.iface t x)/\EV w (λg=>g<B) ks[k] (.iface t x):=by
 have q:=e.length;obtain⟨a,cap,rfl,p,d,c⟩:=ay j.1;refine⟨a,cap,by rw[q],by omega,d,λk h=> ?_⟩;obtain⟨g,rfl,_,r,o⟩:=c (by omega);have b:=e.at k (by omega) h;obtain⟨t,x,l⟩:=b.form;rw[l] at b;exact⟨g,t,x,rfl,j.2 g rfl,o k _ (by rw[fA (by omega),l]),b⟩
theorem je(N:Nat)(hp:td N)(ks:List E)(last:Bool)(w:aa)(u:al)(es:a7)(B b:Nat)(st:BS)(hn:bG ks<=N)(hr:mC w (λg=>g<B) u es)(he:ii w (λg=>g<B) ks es)(h:Bd w B b st)(hK:st.eh+8 *(bG ks+1)<=1099511627776):
  cl 158 #[Pt b,.agg #[u]] w (bx w B b (aL (.apply ks) last st)):=by
 obtain⟨a,cap,rfl,h3,W,I⟩:=xl hr he;unfold maxLen at W;have Q:=ag I;have HW:=ag (jy N hp);have d7:=h.le;have H:=ag (show aL (.apply ks) last st=am (am (dB 5 ks 4 st) 11 0) 12 0 from by rw[aL,t7]);rw[H.out];have M:=nG ks;have h4:ks.length<=1099511627776:=by omega
 obtain⟨O,y⟩:∃O,O=w.alloc (.cells #[.slice a ks.length cap] 273):=⟨_,rfl⟩;have z:Below w.heap.size w O:=by rw[y];exact aR _ _
 have S:=ag (T3 d7 z);have D:=ag (h.below z);have j:=ag (ei hK hn);clear I hr he hp h z hK hn M H;go_enter func158,ntmps158;go_wp2;rw[<-y];clear y
 go_loopw [4,10] (λo i wr=>∃k:Nat,k<=ks.length/\i=Jn k/\o=Jn (Jh 4 5 k)/\Bd wr B b (dB 5 (ks.take k) 4 st)/\dD B O wr) (λ_ i _=>ks.length-(intOf i).toNat)
 case atStart=>exact⟨0,kc _,rfl,rfl,D.out,dD.refl _ _⟩
 case round=>
  obtain⟨k,hk,rfl,rfl,hf,r⟩:=hrel;have HF:=ag hf;have T:=ag r;have v:=ag (S.out.trans r);have A:=oL 5 (ks.take k) 4 st;by_cases hlt:k<ks.length
  .obtain⟨g,t,x,rfl,X,c0,L⟩:=Q.out k hlt;have d0:wr.cell? (dq g k)=some (.iface t x):=by rw[v.out.below.cell (p:=(dq g k)) X];exact c0
   have Z:=jA ks k hlt;have l:=ag (HW.out ks[k] (Jh 4 5 k) wr (.iface t x) B b _ (by have:=j.out;omega) (L.uj v.out) hf (by have:=j.out;omega));have G:=ag (show eJ (Jh 4 5 k) ks[k] (dB 5 (ks.take k) 4 st)=dB 5 (ks.take (k+1)) 4 st from by
    rw[mn hlt,mq,RE,SN (Sk hlt)])
   rw[G.out] at l;obtain⟨q,C⟩:∃q,q=Jh 4 5 k:=⟨_,rfl⟩;rw[<-C] at l;rw[<-C];clear r c0 L hf Z HF A C G;go_wp2_with fail;refine l.out.mono ?_;rintro e w2 ⟨rfl,d,c⟩;have R:=ag d;have s:=ag (T.out.trans c);clear d c l;go_wp2;go_roundw
   case rel=>exact⟨k+1,by omega,rfl,rfl,R.out,s.out⟩
   case measure=>simp[intOf];omega
  .have Y:k=ks.length:=by omega
   subst Y;rw[xp] at hf A;have h0:=cW (dB 5 ks 4 st);have HE:=ag (dS 11 0 hf (by have:=j.out;omega));have V:=ag (show(am (dB 5 ks 4 st) 11 0).size<=1099511627776 from by have h1:=j.out;have h2:=cW (am (dB 5 ks 4 st) 11 0);rw[bu] at h2;omega);obtain⟨q,C⟩:∃q,q=Jh 4 5 ks.length:=⟨_,rfl⟩;rw[<-C];clear r hf HF A h0 C;go_wp2_with fail;refine HE.out.mono ?_;rintro e w2 ⟨rfl,d,c⟩;have F:=ag (dS 12 0 d V.out);have s:=ag (v.out.trans c);clear d c HE;go_wp2_with fail;refine F.out.mono ?_;rintro e w3 ⟨rfl,J,K⟩;have U:=ag (show bx w B b (am (am (dB 5 ks 4 st) 11 0) 12 0) (.returned (.tuple #[])) w3 from⟨rfl,J,s.out.trans K⟩);clear J K F;go_wp2;refine TT ?_;exact U.out
theorem lV(N:Nat)(hp:td N)(ks:List E)(w:aa)(u:al)(es:a7)(B b:Nat)(st:BS)(last:Bool)(hn:bG ks<=N)(hr:mC w (λg=>g<B) u es)(he:ii w (λg=>g<B) ks es)(h:Bd w B b st)(hK:st.eh+8 *(bG ks+1)<=1099511627776)(W:1<=ks.length):
  cl 157 #[Pt b,.agg #[u],.bool last] w (bx w B b (aL (.seq ks) last st)):=by
 obtain⟨a,cap,rfl,h7,h8,H⟩:=xl hr he;unfold maxLen at h8;have Y:=ag H;have HW:=ag (jy N hp);have Q:=ag hp;have d7:=h.le;have F:=nG ks;obtain⟨f,hf⟩:∃f,ks.length=f+1:=⟨ks.length-1,by omega⟩;have D:f<ks.length:=by omega
 have R:=ag (show aL (.seq ks) last st=aL ks[f] last (am (dB 6 (ks.take f) 4 st) 7 0) from by
  rw[aL,<-uY,<-mn D,<-hf,xp])
 rw[R.out];have y:=jA ks f D;obtain⟨fin,j⟩:∃fin,fin=ks[f]:=⟨_,rfl⟩;have L:=ag (show∃g t x,a=eb g/\g<B/\Cl w g f (.iface t x)/\EV w (λg=>g<B) fin (.iface t x) from by rw[j];exact H f D);rw[<-j];rw[<-j] at y;have z:=ag (ei hK (ei hn y));have h5:=ag hf;rw[hf] at h7 F;rw[hf];have hb:f+1<=1099511627776:=by omega
 obtain⟨T,C⟩:∃T,T=w.alloc (.cells #[.slice a (f+1) cap] 269):=⟨_,rfl⟩;have hL:T.heap[w.heap.size]? =some (.cells #[.slice a (f+1) cap] 269):=by rw[C];exact n6
 have I:Below w.heap.size w T:=by rw[C];exact aR _ _
 have HL:=ag hL;have h0:=ag (T3 d7 I);have M:=ag (h.below I);clear H hr he hp h I hf hL W hK hn y F R j D;have b1:(0:Int)<=(f:Int):=by omega
 have b2:(f:Int)<=(cap:Int):=by omega
 go_enter func157,ntmps157;go_wp2;rw[<-C];clear C
 go_loopw [7,19] (λo i wr=>∃k:Nat,k<=f/\i=Jn k/\o=Jn (Jh 4 6 k)/\Bd wr B b (dB 6 (ks.take k) 4 st)/\dD B T wr) (λ_ i _=>f-(intOf i).toNat)
 case atStart=>exact⟨0,kc _,rfl,rfl,M.out,dD.refl _ _⟩
 case round=>
  obtain⟨k,hk,rfl,rfl,hf,s⟩:=hrel;have HF:=ag hf;have h2:=ag s;have G:=ag (h0.out.trans s);have X:=oL 6 (ks.take k) 4 st;by_cases hlt:k<f
  .have d:k<ks.length:=by rw[h5.out];omega
   obtain⟨g,t,x,rfl,J,c0,v⟩:=Y.out k d;have d0:wr.cell? (dq g k)=some (.iface t x):=by rw[G.out.below.cell (p:=(dq g k)) J];exact c0
   have y:=jA ks k d;have A:=ag (HW.out ks[k] (Jh 4 6 k) wr (.iface t x) B b _ (by have:=z.out;omega) (v.uj G.out) hf (by have:=z.out;omega));have O:=ag (show eJ (Jh 4 6 k) ks[k] (dB 6 (ks.take k) 4 st)=dB 6 (ks.take (k+1)) 4 st from by
    rw[mn d,mq,RE,SN (Sk d)])
   rw[O.out] at A;obtain⟨q,K⟩:∃q,q=Jh 4 6 k:=⟨_,rfl⟩;rw[<-K] at A;rw[<-K];clear s c0 v hf y HF X K O d;go_wp2_with fail;refine A.out.mono ?_;rintro e w2 ⟨rfl,r,c⟩;have Z:=ag r;have l:=ag (h2.out.trans c);clear r c A;go_wp2;go_roundw
   case rel=>exact⟨k+1,by omega,rfl,rfl,Z.out,l.out⟩
   case measure=>simp[intOf];omega
  .have h9:k=f:=by omega
   subst h9;obtain⟨g,t,x,rfl,J,c0,v⟩:=L.out;have ha:=cW (dB 6 (ks.take k) 4 st);have HE:=ag (dS 7 0 hf (by have:=z.out;omega));have S:=ag (show(am (dB 6 (ks.take k) 4 st) 7 0).eh+8 *cJ fin<=1099511627776/\cJ fin<=N from by have h1:=z.out;rw[bu];omega);have h3:=ag v;have h6:=ag (s.kp 269 rfl _ _ HL.out);obtain⟨q,K⟩:∃q,q=Jh 4 6 k:=⟨_,rfl⟩;rw[<-K];clear s hf HF X ha v K;go_wp2_with fail;refine HE.out.mono ?_;rintro e w2 ⟨rfl,r,c⟩;have l:=ag (G.out.trans c);have l0:=ae (c.kp 269 rfl _ _ h6.out) 0;simp only[fD,fy] at l0;have d0:w2.cell? (dq g k)=some (.iface t x):=by rw[l.out.below.cell (p:=(dq g k)) J];exact c0
   have HP:=ag (Q.out fin w2 (.iface t x) B b _ last S.out.2 (h3.out.uj l.out) r S.out.1);clear r c HE c0 Q;go_wp2_with fail;refine HP.out.mono ?_;rintro e w3 ⟨rfl,U,V⟩;have h4:=ag (show bx w B b (aL fin last (am (dB 6 (ks.take k) 4 st) 7 0)) (.returned (.tuple #[])) w3 from⟨rfl,U,l.out.trans V⟩);clear U V HP;go_wp2;refine TT ?_;exact h4.out
theorem zu(a:al)(w:aa):(Instr.typeAssert (.iface 133 (.agg #[a])) 83 133 true).run prog w=.ok (.tuple #[.agg #[a],.bool true]) w:=by kernel_rfl
theorem OO(a:al)(w:aa):(Instr.typeAssert (.iface 202 (.agg #[a])) 83 202 true).run prog w=.ok (.tuple #[.agg #[a],.bool true]) w:=by kernel_rfl
theorem Fa(a b:al)(w:aa):(Instr.typeAssert (.iface 279 (.agg #[a,b])) 83 279 true).run prog w=.ok (.tuple #[.agg #[a,b],.bool true]) w:=by kernel_rfl
theorem ON(a b:al)(w:aa):(Instr.typeAssert (.iface 267 (.agg #[a,b])) 83 267 true).run prog w=.ok (.tuple #[.agg #[a,b],.bool true]) w:=by kernel_rfl
theorem Qd(a b c:al)(w:aa):(Instr.typeAssert (.iface 261 (.agg #[a,b,c])) 83 261 true).run prog w=.ok (.tuple #[.agg #[a,b,c],.bool true]) w:=by kernel_rfl
theorem OM(a:al)(w:aa):(Instr.typeAssert (.iface 269 (.agg #[a])) 83 269 true).run prog w=.ok (.tuple #[.agg #[a],.bool true]) w:=by kernel_rfl
theorem II(a:al)(w:aa):(Instr.typeAssert (.iface 273 (.agg #[a])) 83 273 true).run prog w=.ok (.tuple #[.agg #[a],.bool true]) w:=by kernel_rfl
theorem xB(v:al)(w:aa):(Instr.typeAssert (.iface 202 v) 83 133 true).run prog w=.ok (.tuple #[.agg #[.nilIface],.bool false]) w:=by kernel_rfl
theorem pZ(v:al)(w:aa):(Instr.typeAssert (.iface 277 v) 83 133 true).run prog w=.ok (.tuple #[.agg #[.nilIface],.bool false]) w:=by kernel_rfl
theorem pY(v:al)(w:aa):(Instr.typeAssert (.iface 279 v) 83 133 true).run prog w=.ok (.tuple #[.agg #[.nilIface],.bool false]) w:=by kernel_rfl
theorem xA(v:al)(w:aa):(Instr.typeAssert (.iface 267 v) 83 133 true).run prog w=.ok (.tuple #[.agg #[.nilIface],.bool false]) w:=by kernel_rfl
theorem AH(v:al)(w:aa):(Instr.typeAssert (.iface 261 v) 83 133 true).run prog w=.ok (.tuple #[.agg #[.nilIface],.bool false]) w:=by kernel_rfl
theorem xz(v:al)(w:aa):(Instr.typeAssert (.iface 269 v) 83 133 true).run prog w=.ok (.tuple #[.agg #[.nilIface],.bool false]) w:=by kernel_rfl
theorem sN(v:al)(w:aa):(Instr.typeAssert (.iface 273 v) 83 133 true).run prog w=.ok (.tuple #[.agg #[.nilIface],.bool false]) w:=by kernel_rfl
theorem tS(v:al)(w:aa):(Instr.typeAssert (.iface 277 v) 83 202 true).run prog w=.ok (.tuple #[.agg #[.string ⟨#[]⟩],.bool false]) w:=by kernel_rfl
theorem tR(v:al)(w:aa):(Instr.typeAssert (.iface 279 v) 83 202 true).run prog w=.ok (.tuple #[.agg #[.string ⟨#[]⟩],.bool false]) w:=by kernel_rfl
theorem C5(v:al)(w:aa):(Instr.typeAssert (.iface 267 v) 83 202 true).run prog w=.ok (.tuple #[.agg #[.string ⟨#[]⟩],.bool false]) w:=by kernel_rfl
theorem Gd(v:al)(w:aa):(Instr.typeAssert (.iface 261 v) 83 202 true).run prog w=.ok (.tuple #[.agg #[.string ⟨#[]⟩],.bool false]) w:=by kernel_rfl
theorem C0(v:al)(w:aa):(Instr.typeAssert (.iface 269 v) 83 202 true).run prog w=.ok (.tuple #[.agg #[.string ⟨#[]⟩],.bool false]) w:=by kernel_rfl
theorem xE(v:al)(w:aa):(Instr.typeAssert (.iface 273 v) 83 202 true).run prog w=.ok (.tuple #[.agg #[.string ⟨#[]⟩],.bool false]) w:=by kernel_rfl
theorem tQ(v:al)(w:aa):(Instr.typeAssert (.iface 267 v) 83 279 true).run prog w=.ok (.tuple #[.agg #[.string ⟨#[]⟩,.nilIface],.bool false]) w:=by kernel_rfl
theorem xC(v:al)(w:aa):(Instr.typeAssert (.iface 261 v) 83 279 true).run prog w=.ok (.tuple #[.agg #[.string ⟨#[]⟩,.nilIface],.bool false]) w:=by kernel_rfl
theorem tP(v:al)(w:aa):(Instr.typeAssert (.iface 269 v) 83 279 true).run prog w=.ok (.tuple #[.agg #[.string ⟨#[]⟩,.nilIface],.bool false]) w:=by kernel_rfl
theorem qa(v:al)(w:aa):(Instr.typeAssert (.iface 273 v) 83 279 true).run prog w=.ok (.tuple #[.agg #[.string ⟨#[]⟩,.nilIface],.bool false]) w:=by kernel_rfl
theorem Gc(v:al)(w:aa):(Instr.typeAssert (.iface 261 v) 83 267 true).run prog w=.ok (.tuple #[.agg #[.string ⟨#[]⟩,.nilIface],.bool false]) w:=by kernel_rfl
theorem CZ(v:al)(w:aa):(Instr.typeAssert (.iface 269 v) 83 267 true).run prog w=.ok (.tuple #[.agg #[.string ⟨#[]⟩,.nilIface],.bool false]) w:=by kernel_rfl
theorem xD(v:al)(w:aa):(Instr.typeAssert (.iface 273 v) 83 267 true).run prog w=.ok (.tuple #[.agg #[.string ⟨#[]⟩,.nilIface],.bool false]) w:=by kernel_rfl
theorem Gb(v:al)(w:aa):(Instr.typeAssert (.iface 269 v) 83 261 true).run prog w=.ok (.tuple #[.agg #[.nilIface,.nilIface,.nilIface],.bool false]) w:=by kernel_rfl
theorem AI(v:al)(w:aa):(Instr.typeAssert (.iface 273 v) 83 261 true).run prog w=.ok (.tuple #[.agg #[.nilIface,.nilIface,.nilIface],.bool false]) w:=by kernel_rfl
theorem ny(v:al)(w:aa):(Instr.typeAssert (.iface 273 v) 83 269 true).run prog w=.ok (.tuple #[.agg #[.slice none 0 0],.bool false]) w:=by kernel_rfl
theorem ik(st:BS)(op n:Int):(am st op n).size=st.size+1:=by simp[am,BS.size];omega
theorem sI(st:BS)(c:Option D):(bM st c).size=st.size+1:=by simp[bM,BS.size];omega
theorem oQ(st:BS)(s:au):(bh st s).size<=st.size+1:=by
 simp only[bh,BS.size];split<;>simp<;>omega
theorem J7(st:BS)(nm:au)(xs:List au)(a:E):(dF st nm xs a).size<=st.size+xs.length+1:=by
 obtain⟨h1,h2,h3,b,c⟩:=bW xs st;simp only[dF,BS.size,h1,h2,ga,j1,R0];omega
theorem IT(z:ao):z.data.toList.length=z.size:=Sz
theorem FB(d:D)(t:bi)(x:al)(w:aa)(B b:Nat)(st:BS)(last:Bool)(G:∃n,IV w n (.iface t x) d)(h:Bd w B b st)(H:st.eh+8<=1099511627776):
  cl 97 #[Pt b,.iface 133 (.agg #[(.iface t x)]),.bool last] w (bx w B b (fW (am (bM st (some d)) 1 st.cs.length) last)):=by
 have h1:=zu;have d7:=h.le;have C:=cW st;have k:=ag (show(bM st (some d)).size<=1099511627776/\(am (bM st (some d)) 1 st.cs.length).size<=1099511627776 from by rw[ik,sI];omega);have A:=ag (λ(W:aa) (hb:Below w.heap.size w W)=>ei (T3 d7 hb) (pd (some d) _ _ (show CV W (some d) (.iface t x) from(G.elim λn h=>⟨n,IV.ak (TX hb) _ _ _ h⟩)) (h.below hb) (by omega)));have c:=ag (λo=>(fL w.heap.size w).alloc (ew _) o);clear h H C G;go_enter func97,ntmps97;go_wp2_with fail;refine(A.out _ (c.out _)).2.mono ?_;rintro e I ⟨rfl,l,r⟩;have j:=ag l;have y:=ag ((A.out _ (c.out _)).1.trans r);clear l r A;have E:=ag (dS 1 st.cs.length j.out k.out.1);go_wp2_with fail;refine E.out.mono ?_;rintro e J ⟨rfl,p,s⟩;have a:=ag (nZ last p k.out.2);have z:=ag (y.out.trans s);clear p s E j;go_wp2_with fail;refine a.out.mono ?_;rintro e K ⟨rfl,q,v⟩;have F:=ag (ei q (z.out.trans v));clear q v a;go_wp2;refine TT ?_;exact⟨rfl,F.out.1,F.out.2⟩
theorem Ac(w:aa)(B b:Nat)(st:BS)(last:Bool)(h:Bd w B b st)(C:st.eh+8<=1099511627776):
  cl 97 #[Pt b,.iface 133 (.agg #[(.iface 259 (.agg #[]))]),.bool last] w (bx w B b (fW (am (bM st none) 1 st.cs.length) last)):=by
 have h1:=zu;have d7:=h.le;have y:=cW st;have j:=ag (show(bM st none).size<=1099511627776/\(am (bM st none) 1 st.cs.length).size<=1099511627776 from by rw[ik,sI];omega);have x:=ag (λ(W:aa) (hb:Below w.heap.size w W)=>ei (T3 d7 hb) (pd none _ _ (show CV W none (.iface 259 (.agg #[])) from rfl) (h.below hb) (by omega)));have c:=ag (λo=>(fL w.heap.size w).alloc (ew _) o);clear h C y;go_enter func97,ntmps97;go_wp2_with fail;refine(x.out _ (c.out _)).2.mono ?_;rintro e D ⟨rfl,k,q⟩;have d:=ag k;have t:=ag ((x.out _ (c.out _)).1.trans q);clear k q x;have z:=ag (dS 1 st.cs.length d.out j.out.1);go_wp2_with fail;refine z.out.mono ?_;rintro e E ⟨rfl,l,r⟩;have a:=ag (nZ last l j.out.2);have v:=ag (t.out.trans r);clear l r z d;go_wp2_with fail;refine a.out.mono ?_;rintro e F ⟨rfl,p,s⟩;have A:=ag (ei p (v.out.trans s));clear p s a;go_wp2;refine TT ?_;exact⟨rfl,A.out.1,A.out.2⟩
theorem MV(z:ao)(w:aa)(B b:Nat)(st:BS)(last:Bool)(h:Bd w B b st)(E:st.eh+8 *(z.size+1)<=1099511627776):
  cl 97 #[Pt b,.iface 202 (.agg #[.string z]),.bool last] w (bx w B b (fW (am (bh st z.data.toList) 2 (gB st z.data.toList)) last)):=by
 have h1:=OO;have h2:=xB;have d7:=h.le;have A:=cW st;have y:=oQ st z.data.toList;have j:=ag (show(bh st z.data.toList).size<=1099511627776/\(am (bh st z.data.toList) 2 (gB st z.data.toList)).size<=1099511627776 from by rw[ik];omega);have x:=ag (λ(W:aa) (hb:Below w.heap.size w W)=>ei (T3 d7 hb) (wM z (by unfold maxLen;omega) (h.below hb) (by omega)));have c:=ag (λo=>(fL w.heap.size w).alloc (ew _) o);clear h E A y;go_enter func97,ntmps97;go_wp2_with fail;refine(x.out _ (c.out _)).2.mono ?_;rintro e F ⟨rfl,k,q⟩;have d:=ag k;have t:=ag ((x.out _ (c.out _)).1.trans q);clear k q x;have C:=ag (dS 2 (gB st z.data.toList) d.out j.out.1);go_wp2_with fail;refine C.out.mono ?_;rintro e G ⟨rfl,l,r⟩;have a:=ag (nZ last l j.out.2);have v:=ag (t.out.trans r);clear l r C d;go_wp2_with fail;refine a.out.mono ?_;rintro e H ⟨rfl,p,s⟩;have D:=ag (ei p (v.out.trans s));clear p s a;go_wp2;refine TT ?_;exact⟨rfl,D.out.1,D.out.2⟩
theorem CG(nm:ao)(u:al)(c:List ao)(a:al)(k:E)(w:aa)(B b:Nat)(st:BS)(last:Bool)(O:yc w (λg=>g<B) u c)(L:EV w (λg=>g<B) k a)(h:Bd w B b st)(V:st.eh+8 *cJ (.lambda nm.data.toList (TI c) k)<=1099511627776):
  cl 97 #[Pt b,.iface 277 (.agg #[.string nm,u,a]),.bool last] w (bx w B b (fW (am (dF st nm.data.toList (TI c) k) 3 st.bs.length) last)):=by
 have h1:=G5;have h2:=pZ;have h3:=tS;have d7:=h.le;have R:=cW st;have Q:=J7 st nm.data.toList (TI c) k;have M:(TI c).length=c.length:=by simp[TI]
 have N:=r6 (TI c);have H:∀z∈c,z.size+1<=((TI c).map (λs=>s.length+1)).sum:=λz S=>by
  have:∀(l:List ao),z∈l->z.size+1<=((TI l).map (λs=>s.length+1)).sum:=by
   intro l;induction l with
   |nil=>intro h;cases h
   |cons y r Y=>
    intro h;rcases RD.1 h with rfl|h
    .simp only[TI,v6,Ss,IT];omega
    .have:=Y h;simp only[TI,v6,Ss] at *;omega
  exact this c S
 simp only[cJ] at V;have q:=ag (show(dF st nm.data.toList (TI c) k).size<=1099511627776/\(am (dF st nm.data.toList (TI c) k) 3 st.bs.length).size<=1099511627776 from by rw[ik];omega);obtain⟨t,x,rfl⟩:=L.form;obtain⟨Z,cap,rfl,_⟩:=ay O.1;have K:=ag (λ(W:aa) (hb:Below w.heap.size w W)=>ei (T3 d7 hb) (zy nm _ c k t x (O.imp (w':=W) (P':=λg=>g<B) λg o X ho=>⟨by rw[hb.block g (ai ho)];exact ho,X⟩) (L.uj (T3 d7 hb)) (h.below hb) (by omega) (λz S=>by have:=H z S;unfold maxLen;omega)));have j:=ag (λo=>(fL w.heap.size w).alloc (ew _) o);clear h L O V R Q M N H;go_enter func97,ntmps97;go_wp2_with fail;refine(K.out _ (j.out _)).2.mono ?_;rintro e wa ⟨rfl,v,D⟩;have p:=ag v;have I:=ag ((K.out _ (j.out _)).1.trans D);clear v D K;have T:=ag (dS 3 st.bs.length p.out q.out.1);go_wp2_with fail;refine T.out.mono ?_;rintro e wb ⟨rfl,A,F⟩;have d:=ag (nZ last A q.out.2);have J:=ag (I.out.trans F);clear A F T p;go_wp2_with fail;refine d.out.mono ?_;rintro e wc ⟨rfl,C,G⟩;have U:=ag (ei C (J.out.trans G));clear C G d;go_wp2;refine TT ?_;exact⟨rfl,U.out.1,U.out.2⟩
theorem CF(N:Nat)(hp:td N)(z:ao)(a:al)(n:E)(w:aa)(B b:Nat)(st:BS)(last:Bool)(Y:cJ n<=N)(O:EV w (λg=>g<B) n a)(h:Bd w B b st)(X:st.eh+8 *(cJ n+z.size+1)<=1099511627776):
  cl 97 #[Pt b,.iface 279 (.agg #[.string z,a]),.bool last] w (bx w B b (fW (am (bh (eJ 4 n st) z.data.toList) 9 (gB (eJ 4 n st) z.data.toList)) last)):=by
 have h1:=Fa;have h2:=pY;have h3:=tR;have Z:=lI;have d7:=h.le;have H:=sm 4 n st;obtain⟨d,c⟩:∃d,d=eJ 4 n st:=⟨_,rfl⟩;rw[<-c] at H;rw[<-c];have R:=cW d;have Q:=oQ d z.data.toList;have r:=ag (show d.size<=1099511627776/\z.size<=1099511627776 from by omega);have s:=ag (show(bh d z.data.toList).size<=1099511627776/\(am (bh d z.data.toList) 9 (gB d z.data.toList)).size<=1099511627776 from by rw[ik];omega);obtain⟨t,x,rfl⟩:=O.form;have M:=ag (λ(W:aa) (hb:Below w.heap.size w W)=>ei (T3 d7 hb) (jy N hp n 4 W (.iface t x) B b st Y (O.uj (T3 d7 hb)) (h.below hb) (by omega)));have L:=ag c;have p:=ag (λo=>(fL w.heap.size w).alloc (ew _) o);clear h O hp X H R Q c;go_enter func97,ntmps97;go_wp2_with fail;refine(M.out _ (p.out _)).2.mono ?_;rintro e wn ⟨rfl,k,l⟩;rw[<-L.out] at k;have K:=ag ((M.out _ (p.out _)).1.trans l);have v:=l.kp 279 rfl _ _ (n6 (xs:=w.heap) (x:=Obj.cells #[.string z,.iface t x] 279 (0,0)));have V:=ae v 0;simp only[fD,fy] at V;have U:=ag (wM z (by have:=r.out;unfold maxLen;omega) k r.out.1);clear l v k M;go_wp2_with fail;refine U.out.mono ?_;rintro e wa ⟨rfl,y,D⟩;have q:=ag y;have I:=ag (K.out.trans D);clear y D U V;have S:=ag (dS 9 (gB d z.data.toList) q.out s.out.1);go_wp2_with fail;refine S.out.mono ?_;rintro e wb ⟨rfl,A,F⟩;have j:=ag (nZ last A s.out.2);have J:=ag (I.out.trans F);clear A F S q;go_wp2_with fail;refine j.out.mono ?_;rintro e wc ⟨rfl,C,G⟩;have T:=ag (ei C (J.out.trans G));clear C G j;go_wp2;refine TT ?_;exact⟨rfl,T.out.1,T.out.2⟩
theorem MQ(N:Nat)(hp:td N)(z:ao)(a:al)(n:E)(w:aa)(B b:Nat)(st:BS)(last:Bool)(Y:cJ n<=N)(O:EV w (λg=>g<B) n a)(h:Bd w B b st)(X:st.eh+8 *(cJ n+z.size+1)<=1099511627776):
  cl 97 #[Pt b,.iface 267 (.agg #[.string z,a]),.bool last] w (bx w B b (fW (am (bh (eJ 4 n st) z.data.toList) 10 (gB (eJ 4 n st) z.data.toList)) last)):=by
 have h1:=ON;have h2:=xA;have h3:=C5;have Z:=qO;have h5:=tQ;have d7:=h.le;have H:=sm 4 n st;obtain⟨d,c⟩:∃d,d=eJ 4 n st:=⟨_,rfl⟩;rw[<-c] at H;rw[<-c];have R:=cW d;have Q:=oQ d z.data.toList;have r:=ag (show d.size<=1099511627776/\z.size<=1099511627776 from by omega);have s:=ag (show(bh d z.data.toList).size<=1099511627776/\(am (bh d z.data.toList) 10 (gB d z.data.toList)).size<=1099511627776 from by rw[ik];omega);obtain⟨t,x,rfl⟩:=O.form;have M:=ag (λ(W:aa) (hb:Below w.heap.size w W)=>ei (T3 d7 hb) (jy N hp n 4 W (.iface t x) B b st Y (O.uj (T3 d7 hb)) (h.below hb) (by omega)));have L:=ag c;have p:=ag (λo=>(fL w.heap.size w).alloc (ew _) o);clear h O hp X H R Q c;go_enter func97,ntmps97;go_wp2_with fail;refine(M.out _ (p.out _)).2.mono ?_;rintro e wn ⟨rfl,k,l⟩;rw[<-L.out] at k;have K:=ag ((M.out _ (p.out _)).1.trans l);have v:=l.kp 267 rfl _ _ (n6 (xs:=w.heap) (x:=Obj.cells #[.string z,.iface t x] 267 (0,0)));have V:=ae v 0;simp only[fD,fy] at V;have U:=ag (wM z (by have:=r.out;unfold maxLen;omega) k r.out.1);clear l v k M;go_wp2_with fail;refine U.out.mono ?_;rintro e wa ⟨rfl,y,D⟩;have q:=ag y;have I:=ag (K.out.trans D);clear y D U V;have S:=ag (dS 10 (gB d z.data.toList) q.out s.out.1);go_wp2_with fail;refine S.out.mono ?_;rintro e wb ⟨rfl,A,F⟩;have j:=ag (nZ last A s.out.2);have J:=ag (I.out.trans F);clear A F S q;go_wp2_with fail;refine j.out.mono ?_;rintro e wc ⟨rfl,C,G⟩;have T:=ag (ei C (J.out.trans G));clear C G j;go_wp2;refine TT ?_;exact⟨rfl,T.out.1,T.out.2⟩
theorem O8(N:Nat)(hp:td N)(c d j:E)(w:aa)(v1 t v:al)(B b:Nat)(st:BS)(last:Bool)(y:cJ c+cJ d+cJ j<=N)(r:EV w (λg=>g<B) c v1)(e2:EV w (λg=>g<B) d t)(e3:EV w (λg=>g<B) j v)(h:Bd w B b st)(x:st.eh+8 *(cJ c+cJ d+cJ j+1)<=1099511627776):
  cl 97 #[Pt b,.iface 261 (.agg #[v1,t,v]),.bool last] w (bx w B b (aL (.ite c d j) last st)):=by
 have h1:=Qd;have h2:=AH;have h3:=Gd;have C:=t9;have D:=xC;have F:=Gc;have d7:=h.le;have q:=ag (λ(W:aa) (hb:Below w.heap.size w W)=>ei (T3 d7 hb) (yw N hp c d j last W v1 t v B b st y (r.uj (T3 d7 hb)) (e2.uj (T3 d7 hb)) (e3.uj (T3 d7 hb)) (h.below hb) x));have k:=ag (λo=>(fL w.heap.size w).alloc (ew _) o);obtain⟨G,x1,rfl⟩:=r.form;obtain⟨H,x2,rfl⟩:=e2.form;obtain⟨I,x3,rfl⟩:=e3.form;obtain⟨s,a⟩:∃s,s=aL (.ite c d j) last st:=⟨_,rfl⟩;rw[<-a] at q;rw[<-a];clear h r e2 e3 hp x y a;go_enter func97,ntmps97;go_wp2_with fail;refine(q.out _ (k.out _)).2.mono ?_;rintro e A ⟨rfl,p,l⟩;have z:=ag (show bx w B b s (.returned (.tuple #[])) A from⟨rfl,p,(q.out _ (k.out _)).1.trans l⟩);clear p l q;go_wp2;refine TT ?_;exact z.out
theorem MP(N:Nat)(hp:td N)(ks:List E)(w:aa)(u:al)(es:a7)(B b:Nat)(st:BS)(last:Bool)(s:bG ks<=N)(t:mC w (λg=>g<B) u es)(r:ii w (λg=>g<B) ks es)(x:1<=ks.length)(h:Bd w B b st)(q:st.eh+8 *(bG ks+1)<=1099511627776):
  cl 97 #[Pt b,.iface 269 (.agg #[u]),.bool last] w (bx w B b (aL (.seq ks) last st)):=by
 have h1:=OM;have h2:=xz;have h3:=C0;have C:=qN;have D:=tP;have F:=CZ;have G:=Gb;have H:=ny;have d7:=h.le;have p:=ag (λ(W:aa) (hb:Below w.heap.size w W)=>ei (T3 d7 hb) (show cl 157 _ W (bx W B b (aL (.seq ks) last st)) from by
  have l:mC W (λg=>g<B) u es:=t.imp λg o z ho=>⟨by rw[hb.block g (ai ho)];exact ho,z⟩
  first|exact lV N hp ks W u es B b st last s l (r.uj (T3 d7 hb)) (h.below hb) q x|exact je N hp ks last W u es B b st s l (r.uj (T3 d7 hb)) (h.below hb) q))
 have d:=ag (λo=>(fL w.heap.size w).alloc (ew _) o);obtain⟨a,cap,rfl,_⟩:=ay t.1;obtain⟨v,c⟩:∃v,v=aL (.seq ks) last st:=⟨_,rfl⟩;rw[<-c] at p;rw[<-c];clear h t r hp x q s c;go_enter func97,ntmps97;go_wp2_with fail;refine(p.out _ (d.out _)).2.mono ?_;rintro e A ⟨rfl,k,j⟩;have y:=ag (show bx w B b v (.returned (.tuple #[])) A from⟨rfl,k,(p.out _ (d.out _)).1.trans j⟩);clear k j p;go_wp2;refine TT ?_;exact y.out
theorem FA(N:Nat)(hp:td N)(ks:List E)(w:aa)(u:al)(es:a7)(B b:Nat)(st:BS)(last:Bool)(s:bG ks<=N)(t:mC w (λg=>g<B) u es)(r:ii w (λg=>g<B) ks es)(x:1<=ks.length)(h:Bd w B b st)(q:st.eh+8 *(bG ks+1)<=1099511627776):
  cl 97 #[Pt b,.iface 273 (.agg #[u]),.bool last] w (bx w B b (aL (.apply ks) last st)):=by
 have h1:=II;have h2:=sN;have h3:=xE;have C:=mI;have D:=qa;have F:=xD;have G:=AI;have H:=ny;have d7:=h.le;have p:=ag (λ(W:aa) (hb:Below w.heap.size w W)=>ei (T3 d7 hb) (show cl 158 _ W (bx W B b (aL (.apply ks) last st)) from by
  have l:mC W (λg=>g<B) u es:=t.imp λg o z ho=>⟨by rw[hb.block g (ai ho)];exact ho,z⟩
  first|exact lV N hp ks W u es B b st last s l (r.uj (T3 d7 hb)) (h.below hb) q x|exact je N hp ks last W u es B b st s l (r.uj (T3 d7 hb)) (h.below hb) q))
 have d:=ag (λo=>(fL w.heap.size w).alloc (ew _) o);obtain⟨a,cap,rfl,_⟩:=ay t.1;obtain⟨v,c⟩:∃v,v=aL (.apply ks) last st:=⟨_,rfl⟩;rw[<-c] at p;rw[<-c];clear h t r hp x q s c;go_enter func97,ntmps97;go_wp2_with fail;refine(p.out _ (d.out _)).2.mono ?_;rintro e A ⟨rfl,k,j⟩;have y:=ag (show bx w B b v (.returned (.tuple #[])) A from⟨rfl,k,(p.out _ (d.out _)).1.trans j⟩);clear k j p;go_wp2;refine TT ?_;exact y.out
theorem xh:∀N,td N
 |0=>λn w v B b st last j l h e=>absurd (qx n) (by omega)
 |N+1=>λn w v B b st last j l h e=>by
  have k:=xh N;cases l with
  |const n t x d p=>exact FB d t x w B b st last ⟨n,p⟩ h (by simp only[cJ] at e;omega)
  |nothing=>exact Ac w B b st last h (by simp only[cJ] at e;omega)
  |var s=>exact MV s w B b st last h (by simp only[cJ,IT] at e;exact e)
  |ite a o c=>exact O8 N k _ _ _ w _ _ _ B b st last (by simp only[cJ] at j;omega) a o c h (by simp only[cJ] at e;exact e)
  |define s a=>exact CF N k s _ _ w B b st last (by simp only[cJ] at j;omega) a h (by simp only[cJ,IT] at e;exact e)
  |set s a=>exact MQ N k s _ _ w B b st last (by simp only[cJ] at j;omega) a h (by simp only[cJ,IT] at e;exact e)
  |lambda nm r a=>exact CG nm _ _ _ _ w B b st last r a h e
  |seq r q a=>exact MP N k _ w _ _ B b st last (by simp only[cJ] at j;omega) r a (by rw[a.length];omega) h (by simp only[cJ] at e;exact e)
  |apply r q a=>exact FA N k _ w _ _ B b st last (by simp only[cJ] at j;omega) r a (by rw[a.length];omega) h (by simp only[cJ] at e;exact e)
theorem Jt(e:E)(st:BS):(gX e st).eh<=st.eh+8 *cJ e:=by
 have:=dI e true (am st 0 0);rw[bu] at this;unfold gX;rw[eq];omega
theorem LZ(n:E)(w:aa)(v:al)(B b:Nat)(st:BS)(F:EV w (λg=>g<B) n v)(h:Bd w B b st)(I:st.eh+8 *cJ n+1<=1099511627776):
  cl 58 #[Pt b,v] w (bx w B b (gX n st)):=by
 have D:=cW st;have G:=ag (dS 0 0 h (by omega));have C:=ag (λ(w1:aa) (J:dD B w w1) (h1:Bd w1 B b (am st 0 0))=>xh (cJ n) n w1 v B b (am st 0 0) true (ew _) (F.uj J) h1 (by rw[bu];omega));have d:=ag (show st.is.length<(aL n true (am st 0 0)).is.length from by have:=iy n true (am st 0 0);simp[am] at this ⊢;omega);have k:=ag (show(aL n true (am st 0 0)).size<=1099511627776 from by have h1:=dI n true (am st 0 0);have h2:=cW (aL n true (am st 0 0));rw[bu] at h1;omega);obtain⟨t,x,rfl⟩:=F.form;have l:=ag (show gX n st=aF (aL n true (am st 0 0)) st.is.length from rfl);rw[l.out];obtain⟨st1,a⟩:∃st1,st1=aL n true (am st 0 0):=⟨_,rfl⟩;rw[<-a] at C d k;rw[<-a];clear F h a l I D;go_enter func58,ntmps58;go_wp2_with fail;refine G.out.mono ?_;rintro e w1 ⟨rfl,o,r⟩;have z:=ag o;have c:=ag r;clear o r G;go_wp2_with fail;refine(C.out _ c.out z.out).mono ?_;rintro e K ⟨rfl,p,s⟩;have A:=ag (c.out.trans s);have j:=ag (jV st.is.length d.out p k.out);clear s C p;go_wp2_with fail;refine j.out.mono ?_;rintro e w3 ⟨rfl,q,y⟩;have H:=ag (show bx w B b (aF st1 st.is.length) (.returned (.tuple #[])) w3 from⟨rfl,q,A.out.trans y⟩);clear q y j;go_wp2;refine TT ?_;exact H.out
theorem nU(st:BS)(last:Bool):(fW st last).bs=st.bs:=by unfold fW;split<;>rfl
mutual
theorem jH:∀(e:E) (last:Bool) (st:BS),∃l,(aL e last st).bs=st.bs++l
 |.const d,last,st=>⟨[],by rw[aL,nU];simp[am,bM]⟩
 |.nothing,last,st=>⟨[],by rw[aL,nU];simp[am,bM]⟩
 |.var s,last,st=>⟨[],by rw[aL,nU];simp[am,bh]⟩
 |.lambda nm xs a,last,st=>⟨[a],by rw[aL,nU];rfl⟩
 |.define s a,last,st=>by
  obtain⟨l,f⟩:=jH a false (am st 4 0);exact⟨l,by simp only[aL];rw[nU];simpa[am,bh,aF] using f⟩
 |.set s a,last,st=>by
  obtain⟨l,f⟩:=jH a false (am st 4 0);exact⟨l,by simp only[aL];rw[nU];simpa[am,bh,aF] using f⟩
 |.ite a b c,last,st=>by
  obtain⟨l,f⟩:=jH a false (am st 4 0);obtain⟨l2,g⟩:=jH b true (am (aF (aL a false (am st 4 0)) st.is.length) 8 0);obtain⟨l3,h⟩:=jH c true (aF (aL b true (am (aF (aL a false (am st 4 0)) st.is.length) 8 0)) (aF (aL a false (am st 4 0)) st.is.length).is.length);refine⟨l++(l2++l3),?_⟩;simp only[aL];rw[h];show(aL b true (am (aF (aL a false (am st 4 0)) st.is.length) 8 0)).bs++l3=_;rw[g];show((aL a false (am st 4 0)).bs++l2)++l3=_;rw[f];show((st.bs++l)++l2)++l3=_;simp
 |.seq es,last,st=>by
  obtain⟨l,f⟩:=Hf es 4 last st;exact⟨l,by simp only[aL];exact f⟩
 |.apply es,last,st=>by
  obtain⟨l,f⟩:=He es 4 st;exact⟨l,by simp only[aL];exact f⟩
theorem Hf:∀(es:List E) (op:Int) (last:Bool) (st:BS),∃l,(eS es op last st).bs=st.bs++l
 |[],op,last,st=>⟨[],by simp[eS]⟩
 |[e],op,last,st=>by
  obtain⟨l,f⟩:=jH e last (am st 7 0);exact⟨l,by simp only[eS];exact f⟩
 |e::e2::r,op,last,st=>by
  obtain⟨l,f⟩:=jH e false (am st op 0);obtain⟨l2,g⟩:=Hf (e2::r) 6 last (aF (aL e false (am st op 0)) st.is.length);refine⟨l++l2,?_⟩;simp only[eS];rw[g];show(aL e false (am st op 0)).bs++l2=_;rw[f];show(st.bs++l)++l2=_;simp
theorem He:∀(es:List E) (op:Int) (st:BS),∃l,(fE es op st).bs=st.bs++l
 |[],op,st=>⟨[],by simp[fE]⟩
 |e::r,op,st=>by
  obtain⟨l,f⟩:=jH e false (am st op 0);obtain⟨l2,g⟩:=He r 5 (aF (aL e false (am st op 0)) st.is.length);refine⟨l++l2,?_⟩;simp only[fE];rw[g];show(aL e false (am st op 0)).bs++l2=_;rw[f];show(st.bs++l)++l2=_;simp
end
theorem dC.entry{w:aa}{b:Nat}{st:BS}(hi:i<st.ls.length)(h:dC w B b st u0 u1 u2 (.slice (eb g) st.ls.length cap) m u5 x1 x3 us):
  dC (w.setCell (dq g (i *3+2)) (Jn st.is.length)) B b (bv st i) u0 u1 u2 (.slice (eb g) st.ls.length cap) m u5 x1 (x3.set (i *3+2) (Jn st.is.length)) us:=by
 obtain⟨j,mp,l⟩:=h.mp;rcases h.r3.2 with⟨e,_⟩|⟨r,cap',q,e,c,a,h1,h2,h3,k⟩
 .cases e
 .cases e;have d:Below B w (w.setCell (dq g (i *3+2)) (Jn st.is.length)):=(fL B w).setCell (p:=(dq g (i *3+2))) c _;refine⟨h.hb,aK a (by decide) _ _ h.hS,aA (aK a (by decide)) h.r0,aA (aK a (by decide)) h.r1,h.c1.ak (aK a (by decide)),aA (aK a (by decide)) h.r2,?_,?_,aA (aK a (by decide)) h.r5,h.e5.imp (aK a (by decide)) (λg o c ho=>⟨by rw[d.block g c];exact ho,c⟩),h.hm,j,bm mp (TP a mp),l⟩
  .rw[bv,s5];refine⟨by rw[s5];exact h.r3.1,RA ⟨g,cap,_,rfl,c,TH a,h1,h2,by simpa using h3,?_⟩⟩;rw[RY,S0,k]
  .exact vG.entry _ _ i st.is.length hi (h.l3.ak (aK a (by decide)))
theorem Bd.body{w:aa}{b:Nat}{st:BS}(h:Bd w B b st)(i:Nat)(hi:i<st.bs.length):∃g cap t x,Cl w b 5 (.slice (eb g) st.bs.length cap)/\st.bs.length<=cap/\cap<=maxLen/\Cl w g i (.iface t x)/\EV w (λg=>g<B) st.bs[i] (.iface t x):=by
 obtain⟨r,u0,u1,u2,u3,m,u5,x1,x3,us,h⟩:=h;have j:=h.e5.length;obtain⟨a,cap,rfl,p,e,d⟩:=ay h.r5;obtain⟨g,rfl,_,q,o⟩:=d (by omega);have k:=ae h.hS 5;simp only[fD,fy,km] at k;have c:=h.e5.at i (by omega) hi;obtain⟨t,x,l⟩:=c.form;rw[l] at c;exact⟨g,cap,t,x,by rw[j];exact k,by omega,e,o i _ (by rw[fA (by omega),l]),c⟩
theorem Bd.Ow{w:aa}{b:Nat}{st:BS}(h:Bd w B b st):∃a cap,Cl w b 5 (.slice a st.bs.length cap):=by
 obtain⟨k,u0,u1,u2,u3,m,u5,x1,x3,us,h⟩:=h;obtain⟨a,cap,rfl,e,j,d⟩:=ay h.r5;have c:=ae h.hS 5;simp only[fD,fy,km] at c;exact⟨a,cap,by rw[h.e5.length];exact c⟩
def A2(w:aa)(B b:Nat)(fin:BS)(wr:aa)(i:Nat):Prop:=
 ∃st,i<=st.bs.length/\Bd wr B b st/\st.size+8 *bG (st.bs.drop i)<=100000/\st.eh<=100000+i *100000/\bY (1048576-i) i st=fin/\dD B w wr
theorem uR(st:BS)(i:Nat):(bv st i).eh=st.eh/\(bv st i).size=st.size/\(bv st i).bs=st.bs:=by simp[bv,BS.eh,BS.size]
theorem yq{st:BS}(hi:i<st.bs.length)(h1:st.size+8 *bG (st.bs.drop i)<=100000)(h2:st.eh<=100000+i *100000):
  let a:=aL st.bs[i] true (bv st i)
  i+1<=a.bs.length/\a.size+8 *bG (a.bs.drop (i+1))<=100000/\a.eh<=100000+(i+1) *100000/\8 *cJ st.bs[i]<=100000:=by
 intro a;have hp:=dI st.bs[i] true (bv st i);obtain⟨l,b⟩:=jH st.bs[i] true (bv st i);obtain⟨c,e2,e3⟩:=uR st i;rw[e3] at b;rw[K1 hi] at h1;simp only[bG] at h1;rw[c] at hp;have hb:a.bs=st.bs++l:=b;have d:a.size+8 *bG a.bs+1<=st.size+8 *bG st.bs+8 *cJ st.bs[i]:=hp;rw[hb,fl] at d;refine⟨by rw[hb,ga];omega,?_,?_,by omega⟩
 .rw[hb,SL (by omega),fl];omega
 .have:a.eh+1<=st.eh+8 *cJ st.bs[i]:=hp;omega
theorem vQ{st:BS}(hi:i<st.bs.length)(a:i<1048576):bY (1048576-i) i st=bY (1048576-(i+1)) (i+1) (aL st.bs[i] true (bv st i)):=by
 rw[show 1048576-i=(1048576-(i+1))+1 by omega,bY,fA hi]
theorem yr{st:BS}(hi:i=st.bs.length):bY n i st=st:=by
 cases n with
 |zero=>rfl
 |succ n=>rw[bY,CC (by omega)]
def KO(w:aa)(B b:Nat)(fin:BS)(e:bo)(w':aa):Prop:=e=.returned (.tuple #[])/\Bd w' B b fin/\dD B w w'
theorem Ce(w:aa)(B b:Nat)(st:BS)(h:Bd w B b st)(hC:st.eh<=100000):
  cl 60 #[Pt b] w (KO w B b (bY 1048576 0 st)):=by
 obtain⟨fin,l⟩:∃fin,fin=bY 1048576 0 st:=⟨_,rfl⟩;rw[<-l];have Q:=ag (show A2 w B b fin w 0 from⟨st,kc _,h,by rw[RQ];exact hC,by omega,l.symm,dD.refl _ _⟩);clear h hC l;go_enter func60,ntmps60;go_wp2
 go_loopw [2] (λi wr=>∃n:Nat,i=Jn n/\A2 w B b fin wr n) (λi _=>100001-(intOf i).toNat)
 case atStart=>exact⟨0,rfl,Q.out⟩
 case round=>
  obtain⟨i,rfl,st,Z,j,s,r,q,v⟩:=hrel;obtain⟨a,cap,c5⟩:=j.Ow;have z:=ag v;have J:=j.1;have h6:st.bs.length<=100000:=by unfold BS.size at s;omega
  by_cases hlt:i<st.bs.length
  .have A:=ag (wF (j.below (fL wr.heap.size wr).drew) (by omega));have o:=ag (yq hlt s r);have M:=ag (show bY (1048576-(i+1)) (i+1) (aL st.bs[i] true (bv st i))=fin from by rw[<-q,vQ hlt (by omega)]);obtain⟨I,u0,u1,u2,u3,m,u5,x1,x3,us,c⟩:=j;obtain⟨a3,cap3,rfl,T,U,_⟩:=ay c.r3;have hw:∃g,a3=eb g/\B<=g/\(wr.cell? (dq g (i *3+2))).isSome=true/\wr.frozen? (dq g (i *3+2))=false/\∃cu,wr.heap[g]? =some (Obj.cells cu 213 (0,0)):=by
    rcases c.r3.2 with⟨hv,h0⟩|⟨g',cap',cu,hv,hg,Y,h1,h2,h3,h4⟩
    .omega
    .cases hv;exact⟨g',rfl,hg,by rw[ae Y,RL (by omega)];rfl,ah Y _,_,Y⟩
   obtain⟨L,rfl,S,d,X,cu0,G⟩:=hw;obtain⟨old,d⟩:=Option.isSome_iff_exists.1 d;have C:=ag G;have c3:=ae c.hS 3;simp only[fD,fy,km] at c3;unfold maxLen at U;have K:=ag (show Bd (wr.setCell (dq L (i *3+2)) (Jn st.is.length)).drew B b (bv st i) from
    Bd.below (w:=wr.setCell (dq L (i *3+2)) (Jn st.is.length)) ⟨by simp[bv,I],_,_,_,_,_,_,_,_,_,c.entry (by omega)⟩ (fL _ _).drew)
   have p:=ag (uR st i);have O:=ag r;have k:=ag hlt;have h5:i<=100000:=by omega
   rw[J] at T c3;clear c G v s r q I Z J;go_wp2;go_region_with (go_at_call 99;refine(A.out).mono ?_;rintro e w' ⟨rfl,rfl⟩)
   all_goals
    have y:=ag (show dD B wr (wr.setCell (dq L (i *3+2)) (Jn st.is.length)).drew from((dD.refl B wr).set C.out rfl S).drew);obtain⟨R,t⟩:∃R,R=(wr.setCell (dq L (i *3+2)) (Jn st.is.length)).drew:=⟨_,rfl⟩;rw[<-t] at y K;rw[<-t];obtain⟨g5,cap5,t5,x5,e5,V,W,e6,x⟩:=K.out.body i (by rw[p.out.2.2];exact k.out);rw[p.out.2.2] at e5 V;have E:(bv st i).bs[i]'(by rw[p.out.2.2];exact k.out)=st.bs[i]'k.out:=by simp[bv]
    rw[E] at x;unfold maxLen at W;have HP:=ag (xh (cJ (st.bs[i]'k.out)) (st.bs[i]'k.out) R (.iface t5 x5) B b (bv st i) true (ew _) x K.out (by have h1:=o.out.2.2.2;have h2:=O.out;rw[p.out.1];omega));clear t x E K A c5 c3 d X C;go_wp2_with fail;refine HP.out.mono ?_;rintro e w2 ⟨rfl,D,F⟩;have N:=ag (show A2 w B b fin w2 (i+1) from⟨_,o.out.1,D,o.out.2.1,o.out.2.2.1,M.out,(z.out.trans y.out).trans F⟩);clear D F HP;go_wp2;go_roundw
    case rel=>exact⟨i+1,rfl,N.out⟩
    case measure=>simp[intOf];omega
  .have H:i=st.bs.length:=by omega
   have HF:=ag (show Bd wr B b fin from by rw[<-q,yr H];exact j);clear j v s r q H;go_wp2;refine TT ?_;exact⟨rfl,HF.out,z.out⟩
theorem Ou(w:aa):Bd ((w.alloc (.map #[] 0)).alloc (.cells #[.slice none 0 0,.slice none 0 0,.slice none 0 0,.slice none 0 0,.map (some w.heap.size),.slice none 0 0] 147)) w.heap.size (w.heap.size+1) BS.new:=by
 refine⟨rfl,.slice none 0 0,.slice none 0 0,.slice none 0 0,.slice none 0 0,w.heap.size,.slice none 0 0,[],[],[],Nat.le_succ _,?_,oh _ _ _ _,oh _ _ _ _,trivial,oh _ _ _ _,oh _ _ _ _,trivial,oh _ _ _ _,.nil,ew _,_,(World.ownsMap_made w _ _ _).alloc _,⟨[],rfl⟩,λs=>⟨rfl,λh=>by cases h⟩⟩;have:=n6 (xs:=(w.alloc (.map #[] 0)).heap) (x:=Obj.cells #[.slice none 0 0,.slice none 0 0,.slice none 0 0,.slice none 0 0,.map (some w.heap.size),.slice none 0 0] 147 (0,0));rw[show(w.alloc (.map #[] 0)).heap.size=w.heap.size+1 from Array.size_push ..] at this;exact this
theorem pj:∀(l:List E) (e:E) (st:BS),ce (l++[e]) st=gX e (ce l st)
 |[],e,st=>rfl
 |a::r,e,st=>by rw[s6,ce,pj r e,ce]
theorem oK:∀(l:List E) (st:BS),(ce l st).eh<=st.eh+8 *bG l
 |[],st=>by simp only[ce];omega
 |a::r,st=>by
  have h1:=Jt a st;have h2:=oK r (gX a st);simp only[ce,bG];omega
def KP(w:aa)(a:List E)(e:bo)(w':aa):Prop:=e=.returned (Pt (w.heap.size+1))/\Bd w' w.heap.size (w.heap.size+1) (dY a)/\dD w.heap.size w w'
theorem Hh(ks:List E)(w:aa)(u:al)(es:a7)(Z:mC w (λg=>g<w.heap.size) u es)(X:ii w (λg=>g<w.heap.size) ks es)(Y:8 *bG ks+1<=100000):
  cl 41 #[u] w (KP w ks):=by
 have R:=nG ks;obtain⟨a,cap,rfl,h0,Q,C⟩:=xl Z X;unfold maxLen at Q;have J:=ag C;have h2:= @run_makeMap prog;obtain⟨I,d⟩:∃I,I=(w.alloc (.map #[] 0)).alloc (.cells #[.slice none 0 0,.slice none 0 0,.slice none 0 0,.slice none 0 0,.map (some w.heap.size),.slice none 0 0] 147):=⟨_,rfl⟩;have D:Below w.heap.size w I:=by rw[d];exact(aR _ _).alloc (by simp) _
 have s:=Ou w;rw[<-d] at s;have L:=ag (T3 (ew _) D);have y:=ag s;have q:=ag Y;have h1:ks.length<=100000:=by omega
 clear C Z X D s R Y;go_enter func41,ntmps41;go_wp2;rw[<-d];clear d
 go_loopw [11] (λi wr=>∃k:Nat,k<=ks.length/\i=Jn k/\Bd wr w.heap.size (w.heap.size+1) (ce (ks.take k) BS.new)/\dD w.heap.size I wr) (λi _=>ks.length-(intOf i).toNat)
 case atStart=>exact⟨0,kc _,rfl,y.out,dD.refl _ _⟩
 case round=>
  obtain⟨k,hk,rfl,hf,h⟩:=hrel;have N:=ag h;have o:=ag (L.out.trans h);have j:=oK (ks.take k) BS.new;have v:BS.new.eh=0:=rfl;rw[v] at j;by_cases hlt:k<ks.length
  .obtain⟨g,t,x,rfl,S,c0,H⟩:=J.out k hlt;have d0:wr.cell? (dq g k)=some (.iface t x):=by rw[o.out.below.cell (p:=(dq g k)) S];exact c0
   have U:=jA ks k hlt;have r:=ag (LZ ks[k] wr (.iface t x) w.heap.size (w.heap.size+1) _ (H.uj o.out) hf (by have:=q.out;omega));have A:=ag (show gX ks[k] (ce (ks.take k) BS.new)=ce (ks.take (k+1)) BS.new from by rw[mn hlt,pj]);rw[A.out] at r;clear h c0 H hf U j v A;go_wp2_with fail;refine r.out.mono ?_;rintro e w2 ⟨rfl,c,b⟩;have K:=ag c;have l:=ag (N.out.trans b);clear c b r;go_wp2;go_roundw
   case rel=>exact⟨k+1,by omega,rfl,K.out,l.out⟩
   case measure=>simp[intOf];omega
  .have T:k=ks.length:=by omega
   subst T;rw[xp] at hf j;have V:=cW (ce ks BS.new);have W:=ag (dS 14 0 hf (by have:=q.out;omega));have O:=ag (show(am (ce ks BS.new) 14 0).eh<=100000 from by rw[bu];have:=q.out;omega);clear h hf j v V;go_wp2_with fail;refine W.out.mono ?_;rintro e w2 ⟨rfl,c,b⟩;have z:=ag (Ce w2 w.heap.size (w.heap.size+1) _ c O.out);have l:=ag (o.out.trans b);clear c b W;go_wp2_with fail;refine z.out.mono ?_;rintro e w3 ⟨rfl,F,G⟩;have HF:=ag (show Bd w3 w.heap.size (w.heap.size+1) (dY ks) from F);have M:=ag (l.out.trans G);clear G F z;go_wp2;go_ret;exact⟨rfl,HF.out,M.out⟩
mutual
def kZ:D->Nat
 |.agg l=>fT l+1
 |.slice l _=>fT l+1
 |.lit (.string s)=>s.length+1
 |_=>1
def fT:List D->Nat
 |[]=>0
 |d::r=>kZ d+fT r
end
theorem mr:∀(a b:List D),fT (a++b)=fT a+fT b
 |[],b=>by simp[fT]
 |d::r,b=>by simp only[s6,fT,mr r b];omega
theorem ez(d:D):1<=kZ d:=by unfold kZ;split<;>omega
theorem rY(d:D):(bS d).length+1<=kZ d:=by
 unfold bS;split
 .simp[kZ]
 .exact ez d
theorem Aj(l:au):∀(n op i:Nat) (m:Option (List D)) (d:D) (k:Nat),i<=l.length->(m=none->i<l.length)->rd n l op i m=.inr (d,k)->kZ d<=8 *(k-i)+(match m with|none=>0|some b=>fT b)
 |0,op,i,m,d,k,_,_,h=>by simp[rd] at h
 |n+1,op,i,none,d,k,hi,hm,h=>by
  have hi:=hm rfl;have e:=eR l (n+1) op i none d k (by omega) (λ_=>hi) h;simp only[rd] at h;split at h
  .cases h
  split at h
  .split at h
   .cases h
   .have:=Aj l n (op+1) (i+1) (some []) d k (by omega) (by simp) h;simp[fT] at this ⊢;omega
  split at h
  .split at h
   .cases h
   .split at h
    .cases h
    .rename_i t
     have h1:=eT l (i+1) (by omega);have h2:i+1<=aJ l (i+1):=by unfold aJ;omega
     split at h
     .cases h
     .rename_i c o j
      cases h;have:=Aj l n (op+1) (aJ l (i+1)) none c k (by omega) (λ_=>by omega) j;have v:=eR l n (op+1) (aJ l (i+1)) none c k (by omega) (λ_=>by omega) j;simp[ju,sym,sr,kZ,fT] at this ⊢;omega
  split at h
  .cases h
  .split at h
   .cases h
   .rename_i c a
    cases h;have:kZ d<=(bH l i-i)+1:=by
     unfold ig at a;split at a
     .cases a;exact Tv _ _
     split at a
     .cases a;exact Tv _ _
     split at a
     .split at a
      .cases a
      .cases a;exact Tv _ _
     split at a
     .cases a
     .cases a;simp only[sym,kZ,RE];omega
    simp;omega
 |n+1,op,i,some b,d,k,hi,hm,h=>by
  have e:=eR l (n+1) op i (some b) d k (by omega) (by simp) h;simp only[rd] at h;have h1:=eT l i hi;have h2:i<=aJ l i:=by unfold aJ;omega
  split at h
  .cases h
  split at h
  .cases h;simp[ju,kZ];omega
  split at h
  .cases h
  .rename_i c o j
   have r:=eR l n op (aJ l i) none c o (by omega) (λ_=>by omega) j;have p:=Aj l n op (aJ l i) none c o (by omega) (λ_=>by omega) j;have s:=eR l n op o (some (b++[c])) d k (by omega) (by simp) h;have q:=Aj l n op o (some (b++[c])) d k (by omega) (by simp) h;simp[mr,fT] at p q ⊢;omega
theorem sw(l:au):∀(n i:Nat) (a ds:List D),i<=l.length->dz n l i a=.inr ds->fT ds<=8 *(l.length-i)+fT a
 |0,i,a,ds,hi,h=>by simp only[dz] at h;cases h;omega
 |n+1,i,a,ds,hi,h=>by
  simp only[dz] at h;have h1:=eT l i hi;have h2:i<=aJ l i:=by unfold aJ;omega
  split at h
  .cases h;omega
  split at h
  .cases h
  .rename_i d k b
   have j:=eR l _ 0 (aJ l i) none d k (by omega) (λ_=>by omega) b;have c:=Aj l _ 0 (aJ l i) none d k (by omega) (λ_=>by omega) b;have e:=sw l n k (a++[d]) ds (by omega) h;simp[mr,fT] at c e;omega
theorem js{d:D}(h:aX d=true):fT (aE d)+1=kZ d:=by
 cases d<;>first|rfl|cases h
theorem Kv{b:D}(h:nK b=true):kZ (jF b)+kZ (jG b)+1<=kZ b:=by
 unfold nK at h;rw[rr] at h;have h1:=js h.1;obtain⟨x,y,a⟩:=C7 (of_decide_eq_true h.2);rw[a] at h1;unfold jF jG;rw[a];simp[fT] at h1 ⊢;omega
theorem sK:∀(l:List D),l.all nK=true->fT (l.map jF)+fT (l.map jG)<=fT l
 |[],_=>ew _
 |b::r,h=>by
  rw[R7,rr] at h;have h1:=Kv h.1;have h2:=sK r h.2;simp only[v6,fT];omega
theorem jK(hf:∀d e,f d=some e->cJ e<=kZ d):∀(ds:List D) (ks:List E),bF f ds=some ks->bG ks<=fT ds
 |[],ks,h=>by cases h;exact ew _
 |d::r,ks,h=>by
  simp only[bF] at h;split at h
  .rename_i e b
   split at h
   .rename_i es a
    cases h;have h1:=hf d e b;have h2:=jK hf r es a;simp only[bG,fT];omega
   .cases h
  .cases h
theorem Nk:∀(ks:List E) (e:E),JZ ks=some e->cJ e<=bG ks+1
 |[],e,h=>by cases h
 |[k],e,h=>by cases h;simp only[bG];omega
 |a::b::r,e,h=>by cases h;simp only[cJ];omega
theorem Dt(hf:∀d e,f d=some e->cJ e<=kZ d)(ds:List D)(e:E)(h:eW f ds=some e):cJ e<=fT ds+1:=by
 unfold eW at h;cases hk:bF f ds with
 |none=>rw[hk] at h;cases h
 |some ks=>
  rw[hk] at h;have h1:=jK hf ds ks hk;have h2:=Nk ks e h;omega
theorem zM:∀(nd:List D),((nd.map bS).map (λs=>s.length+1)).sum<=fT nd
 |[]=>ew _
 |d::r=>by have:=zM r;have:=rY d;simp only[v6,Ss,fT];omega
theorem xg(hf:∀d e,f d=some e->cJ e<=kZ d)(nd ds:List D)(e:E)(h:eH f nd ds=some e):cJ e<=fT ds+fT nd+2:=by
 unfold eH at h;split at h
 .cases hb:eW f ds with
  |none=>rw[hb] at h;cases h
  |some k=>
   rw[hb] at h;cases h;have h1:=Dt hf ds k hb;have h2:=zM nd;simp only[cJ];omega
 .cases h
theorem G4(s:au)(e:E):cJ (G3 s e)=cJ e+s.length+1:=by cases e<;>rfl
theorem NX(b:∀s e,cJ (mk s e)=cJ e+s.length+1)(hf:∀d e,f d=some e->cJ e<=kZ d):∀(ds:List D) (e:E),zV f mk ds=some e->cJ e<=fT ds
 |[x,a],e,h=>by
  simp only[zV] at h;split at h
  .cases hk:f a with
   |none=>rw[hk] at h;cases h
   |some k=>
    rw[hk] at h;cases h;have h1:=hf a k hk;have h2:=rY x;rw[b];simp only[fT];omega
  .cases h
 |[],e,h=>by cases h
 |[_],e,h=>by cases h
 |_::_::_::_,e,h=>by cases h
theorem Ep(n:Nat)(s:∀(d:D) (e:E),aN n d=some e->cJ e<=kZ d)(l:List D)(e:E)(h:aN (n+1) (.agg l)=some e):cJ e<=kZ (.agg l):=by
 have key:∀{K:au},aO l=K->K≠[]->fT l.tail+2<=kZ (.agg l):=by
  intro K v w
  match l,v with
  |[],v=>exact absurd v.symm w
  |a::r,_=>have:=ez a;simp only[K2,kZ,fT];omega
 simp only[aN] at h;split at h
 .rename_i j
  have o:=key j (by decide)
  match C:l.tail,h with
  |[q],h=>cases h;simp only[cJ];omega
  |[],h=>cases h
  |_::_::_,h=>cases h
 split at h
 .rename_i j
  have o:=key j (by decide);cases hk:bF (aN n) l.tail with
  |none=>rw[hk] at h;cases h
  |some ks=>
   rw[hk] at h;have h1:=jK s l.tail ks hk
   match ks,h with
   |[a,b],h=>cases h;simp only[cJ,bG] at *;omega
   |[a,b,c],h=>cases h;simp only[cJ,bG] at *;omega
   |[],h=>cases h
   |[_],h=>cases h
   |_::_::_::_::_,h=>cases h
 split at h
 .rename_i j
  have o:=key j (by decide);have:=NX (λ_ _=>rfl) s l.tail e h;omega
 split at h
 .rename_i j
  have o:=key j (by decide)
  match t:l.tail,h with
  |q::ds,h=>
   rw[t] at o;simp only[wI] at h;split at h
   .rename_i hi
    have h1:=xg s _ _ e h;have h2:=js hi;simp only[fT] at o;omega
   .cases h
  |[],h=>cases h
 split at h
 .rename_i j
  have o:=key j (by decide);have:=Dt s l.tail e h;omega
 split at h
 .rename_i j
  have o:=key j (by decide)
  match t:l.tail,h with
  |q::ds,h=>
   rw[t] at o;simp only[tu] at h;split at h
   .rename_i hi
    have h2:=js hi
    match y:aE q,h with
    |x::xs,h=>
     simp only[yH] at h;split at h
     .cases hp:eH (aN n) xs ds with
      |none=>rw[hp] at h;cases h
      |some k=>
       rw[hp] at h;cases h;have h1:=xg s _ _ k hp;have h3:=rY x;rw[y] at h2;rw[G4];simp only[fT] at o h2;omega
     .cases h
    |[],h=>cases h
   .have:=NX G4 s (q::ds) e h;omega
  |[],h=>cases h
 split at h
 .rename_i j
  have o:=key j (by decide)
  match t:l.tail,h with
  |q::ds,h=>
   rw[t] at o;simp only[rV] at h;split at h
   .rename_i hi
    rw[rr] at hi;have h2:=js hi.1;have A:=sK _ hi.2;split at h
    .rename_i p es hp z
     cases h;have h1:=xg s _ _ p hp;have h3:=jK s _ es z;simp only[cJ,bG,fT] at *;omega
    .cases h
   .cases h
  |[],h=>cases h
 split at h
 .cases h
 .cases hk:bF (aN n) l with
  |none=>rw[hk] at h;cases h
  |some ks=>
   rw[hk] at h;cases h;have h1:=jK s l ks hk;simp only[cJ,kZ];omega
theorem nH:∀(n:Nat) (d:D) (e:E),aN n d=some e->cJ e<=kZ d
 |0,d,e,h=>by cases h
 |n+1,.agg l,e,h=>Ep n (nH n) l e h
 |n+1,.slice l _,e,h=>Ep n (nH n) l e h
 |n+1,.lit (.string s),e,h=>by
  simp only[aN] at h;split at h
  .cases h
  .cases h;simp only[cJ,kZ];exact ew _
 |n+1,.lit (.int k m),e,h=>by cases h;exact ez _
 |n+1,.lit (.bool b),e,h=>by cases h;exact ez _
 |n+1,.lit (.float a b),e,h=>by cases h;exact ez _
 |n+1,.lit .nil,e,h=>by cases h;exact ez _
 |n+1,.nil,e,h=>by cases h;exact ez _
 |n+1,.ptr _,e,h=>by cases h;exact ez _
 |n+1,.iface _ _,e,h=>by cases h;exact ez _
 |n+1,.map _,e,h=>by cases h;exact ez _
 |n+1,.held _,e,h=>by cases h;exact ez _
end Go.Proofs.YtlobegpjenabaaaGreatDoor
