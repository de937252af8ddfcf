import Derived.Test.YtlobegpjenabaaaGreatDoorT16
namespace Go.Proofs.YtlobegpjenabaaaGreatDoor
open Go.RowKit Tryz
set_option linter.unusedVariables false
set_option linter.defProp false
set_option maxRecDepth 100000
set_option maxHeartbeats 4000000
def SE:=@Classical.choose_spec
section
variable {B B' K M gf:Nat} {ow mo mf:Nat->Option Nat} {C:Cd} {s:MS} {app args:al} {w1:aa}
theorem Mx(w:aa):(Instr.typeAssert .nilIface 81 130 true).run prog w=.ok (.tuple #[Jn 0,.bool false]) w:=by kernel_rfl
theorem I8(w:aa):(Instr.typeAssert .nilIface 81 131 true).run prog w=.ok (.tuple #[.bool false,.bool false]) w:=by kernel_rfl
theorem My(w:aa):(Instr.typeAssert .nilIface 81 134 true).run prog w=.ok (.tuple #[.string ⟨#[]⟩,.bool false]) w:=by kernel_rfl
theorem Ft(w:aa):(Instr.typeAssert .nilIface 81 207 true).run prog w=.ok (.tuple #[.agg #[],.bool false]) w:=by kernel_rfl
theorem zO(w:aa):(Instr.typeAssert .nilIface 81 259 true).run prog w=.ok (.tuple #[.agg #[],.bool false]) w:=by kernel_rfl
theorem I9(w:aa):(Instr.typeAssert .nilIface 81 136 true).run prog w=.ok (.tuple #[.pointer none,.bool false]) w:=by kernel_rfl
theorem Ja(w:aa):(Instr.typeAssert .nilIface 81 216 true).run prog w=.ok (.tuple #[.pointer none,.bool false]) w:=by kernel_rfl
def K4(w:aa)(B T:Nat)(e:bo)(w':aa):Prop:=e=.returned (.tuple #[])/\Tl w' B T []/\Below w.heap.size w w'
theorem Kl(w:aa)(B T:Nat)(h:Tl w B T []):
  cl 220 #[Pt T,.nilIface] w (K4 w B T):=by
 have a:=ag (fM h (by simp));have b:=ag (λ(W:aa) (hb:Below w.heap.size w W)=>h.below hb);have d:=Mx;have h1:=I8;have h2:=My;have h3:=Ft;have f:=zO;have g:=I9;have i:=Ja;rw[zd (by simp)] at a;clear h;go_enter func220,ntmps220;go_wp2_with fail;refine a.out.mono ?_;rintro e w' ⟨rfl,c⟩;obtain rfl:w=w':=c.symm;go_wp2;refine TT ?_
 first|exact⟨rfl,b.out _ (fL _ _),fL _ _⟩|exact⟨rfl,b.out _ (aR _ _),aR _ _⟩
def K5(w:aa)(e:bo)(w':aa):Prop:=e=.returned (.string ⟨#[]⟩)/\Below w.heap.size w w'
theorem Ku(w:aa):cl 198 #[.nilIface] w (K5 w):=by
 obtain⟨d,b⟩:∃d,d=w.alloc (.cells #[.slice none 0 0] 335):=⟨_,rfl⟩;have g:Below w.heap.size w d:=by rw[b];exact aR _ _
 have f:Tl d w.heap.size w.heap.size []:=⟨ew _,.slice none 0 0,by rw[b];exact n6,oh _ _ _ _⟩;have p:=ag (Kl d w.heap.size w.heap.size f);have c:=ag g;clear f g;go_enter func198,ntmps198;go_wp2_with fail;rw[<-b];clear b;refine p.out.mono ?_;rintro e q ⟨rfl,o,h⟩;have i:=ag (c.out.trans (h.mono c.out.size));obtain⟨hB,u,hS,n⟩:=o;have r:=ag n;obtain⟨a,j,rfl,l,m,k⟩:=ay n;unfold maxLen at m;have c0:=ae hS 0;simp only[fD,fy,R0] at c0;have t:(convert 72 9 (.slice a (min (0:Int) 100).toNat j)).run prog q=.ok (.string ⟨#[]⟩) q:=yy r.out;simp only[R0] at l;clear h p hS n k;go_wp2;go_ret;exact⟨rfl,i.out⟩
theorem Tab.mono{w:aa}(h:Tab B w)(hb:B<=B'):Tab B' w:=λb a=>h b (a.mono hb)
theorem RS.stops{w:aa}{X:a9}{b:Nat}{val out:al}{top:a8}(h:RS B K w X ow mo mf M b C s val app args out top gf)(f:w.heap[M]? =some (.cells (eL b s.pc val (aD gf) app args (.pointer top) out 0 0 0 ⟨#[]⟩) 119))(hb:Below w.heap.size w w1)(st er a:Int)(t:au):ME B (nu w1 M st er a ⟨t.toArray⟩) X ow M b st er a t s.out/\Gw X ow w X ow (nu w1 M st er a ⟨t.toArray⟩):=by
 have c:w1.heap[M]? =some (.cells (eL b s.pc val (aD gf) app args (.pointer top) out 0 0 0 ⟨#[]⟩) 119):=by rw[hb.block M (ai f)];exact f
 have e:aB (λk=>k=M) w1 (nu w1 M st er a ⟨t.toArray⟩):=(((((((((((aY w1 M 8 _).setCell (dq M 9) _ (λ_=>rfl)).setCell (dq M 10) _ (λ_=>rfl)).setCell (dq M 11) _ (λ_=>rfl)).setCell (dq M 1) _ (λ_=>rfl)).setCell (dq M 2) _ (λ_=>rfl)).setCell (dq M 3) _ (λ_=>rfl)).setCell (dq M 4) _ (λ_=>rfl)).setCell (dq M 5) _ (λ_=>rfl)).setCell (dq M 6) _ (λ_=>rfl)).alloc _);have d:(nu w1 M st er a ⟨t.toArray⟩).heap[M]? =some (.cells (eL b 0 .nilIface (.pointer none) .nilIface (.slice none 0 0) (.pointer none) out st er a ⟨t.toArray⟩) 119):=
  (aw (TH (TH (TH (TH (TH (TH (TH (TH (TH (TH c))))))))))).trans (by kernel_rfl)
 have h2:=(h.below f hb).ext c e d;exact⟨⟨out,d,h2.out,h2.owx,h2.xty,h2.owM,h2.tab⟩,Gw.trans (w1:=w1) (X1:=X) (ow1:=ow) ⟨TW _ hb,λ_ _ h _=>h,λ_ _ h=>h,λ_ _ h=>h⟩ ((h.below f hb).gw e)⟩
theorem E5{w:aa}{X:a9}{b:Nat}{val out:al}{top:a8}(h:RS B K w X ow mo mf M b C s val app args out top gf)(c:w.heap[M]? =some (.cells (eL b s.pc val (aD gf) app args (.pointer top) out 0 0 0 ⟨#[]⟩) 119))(n:Int):cl 130 #[Pt M,Jn n] w (aV B K X ow w M b C (dV C s 14 n)):=by
 obtain⟨l,k1,k2,k3,g,i,k6,m,j,k,k10,k11⟩:=bq c;have a:=h.val;have key:∀tl,(cl 198 #[val] w λe w'=>e=.returned (.string ⟨tl.toArray⟩)/\Below w.heap.size w w')->cl 130 #[Pt M,Jn n] w (aV B K X ow w M b C (.done tl s.out)):=λtl f=>by
  refine(L3 w M n val tl k2 (ai c) _ _ _ _ _ _ _ _ _ k1 k3 g i k6 j k k10 k11 (λo=>ah c o) (ag f)).mono ?_;rintro e w' ⟨w1,rfl,hb,rfl⟩;obtain⟨h1,h2⟩:=h.stops c hb 1 0 0 tl;exact⟨rfl,X,ow,h1,h2⟩
 simp only[dV];cases hs:s.val with
 |none=>
  rw[hs] at a;have a:val=.nilIface:=a;subst a;exact key [] ((Ku w).mono λe w' d=>d)
 |some v=>
  rw[hs] at a;exact key _ ((AP v w val _ (VX.vr h.mlt v val a) (h.tab.mono h.d7)).mono λe w' d=>d)
end
section
variable {B K M gf n Tb g8 k' m' kk L:Nat} {ow mo mf ow':Nat->Option Nat} {C:Cd} {s:MS} {app args:al} {er nn mv:Int} {w':aa} {X' P:a9} {ka:bc} {o:List au} {z:ao}
theorem og:∀(l:List (Int×Int)) (i:Nat) (p:Int×Int),l[i]? =some p->(gW l)[i *2]? =some (Jn p.1)/\(gW l)[i *2+1]? =some (Jn p.2)
 |[],i,p,h=>by simp at h
 |q::r,0,p,h=>by simp at h;subst h;exact⟨rfl,rfl⟩
 |q::r,i+1,p,h=>by
  have:=og r i p (by simpa using h);rw[show(i+1) *2=i *2+2 by omega,show i *2+2+1=(i *2+1)+2 by omega];exact this
theorem F7(g:Dj){w:aa}{X:a9}{b:Nat}{val out:al}{top:a8}(h:RS B K w X ow mo mf M b C s val app args out top gf)(c:w.heap[M]? =some (.cells (eL b s.pc val (aD gf) app args (.pointer top) out 0 0 0 ⟨#[]⟩) 119))(op:Nat)(n:Int)(e:0<=n)(f:0<s.pc/\s.pc<10000000)(d:op<15)(a:dV C s op n≠.bad):cl (iM.getD op 0) #[Pt M,Jn n] w (aV B K X ow w M b C (dV C s op n)):=by
 match op,d,a with
 |0,_,_=>exact E3 h c n
 |1,_,a=>exact Bz h c n e a
 |2,_,a=>exact Fj h c n a
 |3,_,a=>exact zz h c n e a
 |4,_,a=>exact Fy h c n a
 |5,_,a=>exact Fe h c n a
 |6,_,a=>exact Fs h c n a
 |7,_,a=>exact EO h c n a
 |8,_,a=>exact yt h c n a
 |9,_,a=>exact yG h c n a
 |10,_,a=>exact J4 h c n a
 |11,_,a=>exact CN h c n a
 |12,_,a=>exact Bh g h c n f a
 |13,_,a=>exact Ez h c n a
 |14,_,_=>exact E5 h c n
 |op+15,d,_=>exact absurd d (by omega)
theorem MG(C:Cd)(s:MS)(op n:Int)(h:dV C s op n≠.bad):∃k:Nat,k<15/\op=k:=by
 by_cases a:0<=op/\op<15
 .exact⟨op.toNat,by omega,by omega⟩
 .exfalso;apply h;unfold dV;split<;>first|omega|rfl
theorem Mv(t:bi)(x:al)(w:aa):(Go.binOp .neq 103 (.iface t x) .nilIface).run prog w=.ok (.bool true) w:=by kernel_rfl
theorem pH.form:∀{k:Nat} {v:al},pH er k v->∃t x,v=.iface t x
 |0,v,h=>⟨_,_,h⟩
 |k+1,v,⟨z,u,h,_⟩=>⟨_,_,h⟩
theorem RS.NT{w:aa}{X:a9}{b:Nat}{val out:al}{top:a8}(h:RS B K w X ow mo mf M b C s val app args out top gf)(d:Gw X ow w X' ow' w')(k:Nat)(c:bc)(T:bi)(a:w.heap[k]? =some (.cells c T))(f:MT.contains T=false):w'.heap[k]? =some (.cells c T):=by
 rw[d.upd.block k (ai a) (λho=> ?_)]
 .exact a
 .cases e:ow k with
  |none=>exact ho e
  |some t=>
   obtain⟨_,g,T',h1,h2⟩:=h.xty k (h.owx _ _ e);rw[a] at h1;cases h1;rw[f] at h2;cases h2
theorem MR.frame{w:aa}{X:a9}{b:Nat}(h:MR B K w X ow M b C s):∃g z,Cl w M 3 (Pt g)/\Cl w g 0 (.string z):=by
 obtain⟨mo,mf,val,app,args,out,top,gf,d,a⟩:=h;obtain⟨fr,c⟩:∃fr,s.frs[s.fr]? =some fr:=⟨s.frs[s.fr]'(a.fdm _ _ a.fr),by simp[a.fdm _ _ a.fr]⟩;obtain⟨g,e,f,i,op,xs,h1,h2⟩:=a.frs _ _ c;rw[a.fr] at h1;cases h1;exact⟨gf,e,(bq d).2.2.2.1,by unfold Cl;rw[ae h2.hS];rfl⟩
def QW(B K:Nat)(X:a9)(ow:Nat->Option Nat)(w:aa)(M b:Nat)(C:Cd)(ev:al)(w':aa):RR->Prop
 |.run s'=>ev=.nilIface/\∃X' ow',MR B K w' X' ow' M b C s'/\Gw X ow w X' ow' w'
 |.done t o=>ev=.nilIface/\∃X' ow',ME B w' X' ow' M b 1 0 0 t o/\Gw X ow w X' ow' w'
 |.err er d o=>(∃k,k<=2/\pH er k ev)/\∃X' ow' s',MR B K w' X' ow' M b C s'/\Gw X ow w X' ow' w'/\s'.st.length=d+1/\s'.out=o
def vE(B K:Nat)(X:a9)(ow:Nat->Option Nat)(w:aa)(M b:Nat)(C:Cd)(r:Nat×RR)(e:bo)(w':aa):Prop:=
 ∃ev,e=.returned (.tuple #[Jn (r.1:Nat),ev])/\QW B K X ow w M b C ev w' r.2
def oZ(B K:Nat)(X:a9)(ow:Nat->Option Nat)(w:aa)(M b:Nat)(C:Cd)(n:Nat)(r:Nat×RR)(a:Nat)(k:Nat)(v:al)(wr:aa):Prop:=
 ∃m:Nat,v=Jn m/\m<=n/\wr.heap[a]? =some (Obj.cells fQ 171 (0,0))/\∃X' ow',Gw X ow w X' ow' wr/\
  ((∃s,MR B K wr X' ow' M b C s/\kI C k s n m=some r)\/(∃t o,ME B wr X' ow' M b 1 0 0 t o/\r=(m,.done t o)))
theorem zH(h:∃k,P k):∃k,P k/\∀j,P j->k<=j:=by
 obtain⟨k,b⟩:=h;induction k using Nat.strongRecOn with
 |_ k c=>
  by_cases a:∃j,j<k/\P j
  .obtain⟨j,hlt,hp⟩:=a;exact c j hlt hp
  .exact⟨k,b,λj hp=>by
    rcases sb j k with h|h
    .exact absurd ⟨j,h,hp⟩ a
    .exact h⟩
open Classical in
noncomputable def ot(P:a9):Nat:=if h:∃k,P k then Classical.choose (zH h) else 0
theorem pw(h:∃k,P k):P (ot P)/\∀j,P j->ot P<=j:=by
 unfold ot;rw[S3 h];exact SE (zH h)
def ya(B K:Nat)(X:a9)(ow:Nat->Option Nat)(w:aa)(M b:Nat)(C:Cd)(n:Nat)(r:Nat×RR)(a c d:Nat)(g:Int)(f e:Nat)(w':aa):Prop:=
 w'.heap[a]? =some (Obj.cells fQ 171 (0,0))/\w'.heap[c]? =some (Obj.cells #[Jn (d:Int),Jn g] 174 (0,0))/\∃j,j<=e/\oZ B K X ow w M b C n r a j (Jn (f:Nat)) w'
theorem ya.rel{X:a9}{w:aa}{b:Nat}{r:Nat×RR}(h:ya B K X ow w M b C n r Tb g8 k' nn m' kk w')(hm:((m':Nat):Int)=mv):∃k,oZ B K X ow w M b C n r Tb k (Jn mv) w':=by
 subst hm;obtain⟨_,_,j,_,h⟩:=h;exact⟨j,h⟩
theorem ya.Q7{X:a9}{w:aa}{b:Nat}{r:Nat×RR}(h:ya B K X ow w M b C n r Tb g8 k' nn m' kk w')(hm:((m':Nat):Int)=mv)(a:L=kk+1):ot (λk=>oZ B K X ow w M b C n r Tb k (Jn mv) w')<L:=by
 subst hm;obtain⟨_,_,j,c,h⟩:=h;have:=(pw (P:=λk=>oZ B K X ow w M b C n r Tb k (Jn (m':Nat)) w') ⟨j,h⟩).2 j h;omega
def Gz(B K:Nat)(X:a9)(ow:Nat->Option Nat)(w:aa)(M b:Nat)(C:Cd)(f:bc)(a c e:Nat)(g:Int)(h:Nat)(er:Int)(d:Nat)(o:List au)(v:al)(w':aa):Prop:=
 (∃k,k<=1/\pH er k v)/\w'.heap[a]? =some (Obj.cells f 171 (0,0))/\w'.heap[c]? =some (Obj.cells #[Jn (e:Int),Jn g] 174 (0,0))/\∃X' ow' s',MR B K w' X' ow' M b C s'/\Gw X ow w X' ow' w'/\s'.st.length=d+1/\s'.out=o
theorem Gz.frame{X:a9}{w:aa}{b:Nat}{d:Nat}{v:al}(h:Gz B K X ow w M b C ka Tb g8 k' nn m' er d o v w'):∃g z,Cl w' M 3 (Pt g)/\Cl w' g 0 (.string z):=by
 obtain⟨_,_,_,X',ow',s',a,_⟩:=h;exact a.frame
theorem Gz.fin{X:a9}{w:aa}{b:Nat}{d:Nat}{v:al}(h:Gz B K X ow w M b C ka Tb g8 k' nn m' er d o v w')(g:aa)(j:∃n,g=w'.drewN n)(mv:Int)(hm:mv=m'):vE B K X ow w M b C (m',.err er d o) (.returned (.tuple #[Jn mv,.iface 178 (.agg #[.string z,v])])) g:=by
 subst hm;obtain⟨n,rfl⟩:=j;obtain⟨⟨k,l,e⟩,_,_,X',ow',s',a,i,h1,h2⟩:=h;obtain⟨mo,mf,val,app,args,out,top,gf,f,c⟩:=a;have hb:Below w'.heap.size w' (w'.drewN n):=⟨rfl,rfl,rfl,ew _,λ_ _=>rfl⟩;exact⟨_,rfl,⟨k+1,by omega,z,v,rfl,e⟩,X',ow',s',⟨mo,mf,val,app,args,out,top,gf,f,c.below f hb⟩,i.trans ⟨TW _ hb,λ_ _ h _=>h,λ_ _ h=>h,λ_ _ h=>h⟩,h1,h2⟩
theorem DM(k:Nat)(h:k<15):fQ[k]? =some (.func (.func (iM.getD k 0)) #[] #[]):=by
 have a:k<iM.length:=h;unfold fQ;rw[fD,Sa,pk,fA a];rfl
set_option maxHeartbeats 40000000 in
theorem DI(hD:Dj){w:aa}{X:a9}{b:Nat}(h:MR B K w X ow M b C s)(n fuel:Nat)(hn:n<=100000)(r:Nat×RR)(hr:kI C fuel s n 0=some r):
  cl 49 #[Pt M,Jn n] w (vE B K X ow w M b C r):=by
 have hL:∀(W:aa) (a:Addr) (m:Mode) (fn:Fn) (x y:bc),(store a (.func fn x y) m).run prog W=stored prog W a (.func fn x y) m:=λW a m fn x y=>TD _ _ _ _ _ rfl;obtain⟨W0,h7⟩:∃W0,W0=(w.alloc (.cells fQ 171)).alloc (.cells fQ 171):=⟨_,rfl⟩;have h8:Below w.heap.size w W0:=by rw[h7];exact(aR _ _).alloc (by simp) _
 have hz:W0.heap[w.heap.size+1]? =some (.cells fQ 171):=by rw[h7,aQ,fN (by simp)]
 have HS:=ag (show oZ B K X ow w M b C n r (w.heap.size+1) fuel (Jn (0:Nat)) W0 from by
  refine⟨0,rfl,kc _,hz,X,ow,⟨TW _ h8,λ_ _ h _=>h,λ_ _ h=>h,λ_ _ h=>h⟩,.inl ⟨s,?_,hr⟩⟩;obtain⟨mo,mf,val,app,args,out,top,gf,H,N⟩:=h;exact⟨mo,mf,val,app,args,out,top,gf,by rw[h8.block M (ai H)];exact H,N.below H h8⟩)
 have HK:=ag (uE w);have HW:=ag h7;clear h hr h8 hz;go_enter func49,ntmps49;go_wp2_with fail;refine HK.out.mono ?_;rintro e w1 ⟨rfl,rfl⟩;unfold fQ iM;go_wp2;have hk:=HW.out;simp only[fQ,iM,v6,SS] at hk;rw[<-hk];clear hk HW h7 HK hL
 go_loopw [7] (λv wr=>∃k,oZ B K X ow w M b C n r (w.heap.size+1) k v wr) (λv wr=>ot (λk=>oZ B K X ow w M b C n r (w.heap.size+1) k v wr))
 case atStart=>exact⟨_,HS.out⟩
 case round=>
  clear HS;obtain⟨hb,hs⟩:=pw hrel;obtain⟨k0,hm⟩:∃k0,ot (λk=>oZ B K X ow w M b C n r (w.heap.size+1) k u7 wr)=k0:=⟨_,rfl⟩;rw[hm] at hb;have he:=ag hm;clear hrel hs hm;obtain⟨m,rfl,hJ,hj,X',ow',hG,hl⟩:=hb;rcases hl with⟨s1,D,c⟩|⟨t,o,hx,hr⟩
  .obtain⟨mo,mf,val,app,args,out,top,gf,H,N⟩:=D;obtain⟨c0,c1,c2,c3,c4,c5,c6,c7,c8,c9,c10,c11⟩:=bq H;cases k0 with
   |zero=>cases c
   |succ k=>
    obtain⟨op,nn,p,hp,R,c⟩:∃op nn,∃p:Nat,s1.pc=p/\C.is[p]? =some (op,nn)/\(if op=12/\m=n then some (m,RR.run s1) else(match iQ C s1 with
     |.ok s'=>kI C k s' n (if op=12 then m+1 else m)
     |.err e d o=>some (if op=12 then m+1 else m,.err e d o)
     |.done t o=>some (if op=12 then m+1 else m,.done t o)
     |.bad=>none))=some r:=by
     rw[kI] at c;unfold iW at c;by_cases h0:0<=s1.pc
     .rw[fN h0] at c;cases hf:C.is[s1.pc.toNat]? with
      |none=>rw[hf] at c;cases c
      |some p=>
       rw[hf] at c;exact⟨p.1,p.2,s1.pc.toNat,by omega,hf,c⟩
     .rw[fb h0] at c;cases c
    obtain⟨cc,v0,v1,v2,v3,y1,y3,G⟩:=N.code;have hV:p<C.is.length:=(ke.1 R).1;obtain⟨gi,icap,hN,_,hO,hT,_,q⟩:=db G.r0.1 (by omega);subst hN;have d0:wr.cell? ⟨b,0,none⟩=some (.slice (eb gi) C.is.length icap):=by rw[ae G.hS];exact G.c0
    have i0:=q _ _ (og _ _ _ R).1;have i1:=q _ _ (og _ _ _ R).2;have hU:=G.li;have hQ:=ai G.hS;have hH:=ai H;have f1:=ah H 1;simp only[] at i0 i1;unfold aD at c0;rw[hp] at c1;have i2:(p:Int)<(C.is.length:Int):=by omega
    have I:=ag N;have HM:=ag H;have HG:=ag hG;have Z:=ag c;have h4:=ag hj;have hc:=ag R;have HP:=ag hp;have HR:=ag (gM wr M 0 c8);clear N H hG c hj R hp G q c2 c3 c4 c5 c6 c7 c8 c9 c10 c11;go_wp2_with fail;refine HR.out.mono ?_;rintro e V ⟨rfl,hu⟩;obtain rfl:wr=V:=hu.symm;go_wp2;go_region;have J:=ag (show Below wr.heap.size wr (wr.alloc (.cells #[Jn op,Jn nn] 174)).drew from(aR _ _).drew);by_cases Q:op=12/\m=n
    .obtain⟨rfl,rfl⟩:=Q;have HF:Hid (vE B K X ow w M b C r (.returned (.tuple #[Jn (m:Nat),.nilIface])) (wr.alloc (.cells #[Jn 12,Jn nn] 174)).drew):=by
      have c:=Z.out;rw[fN ⟨rfl,rfl⟩] at c;cases c;refine⟨_,rfl,rfl,X',ow',⟨mo,mf,val,app,args,out,top,gf,by rw[J.out.block M hH];exact HM.out,I.out.below HM.out J.out⟩,HG.out.trans ⟨TW _ J.out,λ_ _ h _=>h,λ_ _ h=>h,λ_ _ h=>h⟩⟩
     go_wp2;go_ret2;exact HF.out
    .have c:=Z.out;rw[fb Q] at c;obtain⟨s2,l⟩:∃s2:MS,s2={s1 with pc:=s1.pc+1}:=⟨_,rfl⟩;have ha:iQ C s1=if 0<=nn then dV C s2 op nn else .bad:=by
      unfold iQ iW;rw[fN (by rw[HP.out];omega),HP.out,Int.toNat_natCast,hc.out,l,HP.out]
     by_cases ht:0<=nn
     .rw[ha,fN ht] at c;have U:dV C s2 op nn≠.bad:=λe=>by rw[e] at c;cases c
      obtain⟨k',S,hK⟩:=MG C s2 op nn U;subst hK;have O:aB (λk=>k=M) wr ((((wr.setCell ⟨M,1,none⟩ (Jn ((p:Int)+1))).alloc (.cells #[Jn (k':Int),Jn nn] 174)).drew).drew):=(((aY wr M 1 _).alloc _).drew).drew;have h6:((((wr.setCell ⟨M,1,none⟩ (Jn ((p:Int)+1))).alloc (.cells #[Jn (k':Int),Jn nn] 174)).drew).drew).heap[M]? =some (.cells (eL b s2.pc val (aD gf) app args (.pointer top) out 0 0 0 ⟨#[]⟩) 119):=by
       rw[dv,dv,l,HP.out];exact(aw (TH HM.out)).trans rfl
      have i:=(I.out.ext HM.out O h6);have u:=i.sy s2 val app args top gf (by rw[l]) (by rw[l]) (by rw[l]) (by rw[l];exact i.val) (by rw[l];exact i.fr) (by rw[l];exact i.app) (by rw[l];exact i.st);have HC:=ag (F7 hD u h6 k' nn ht (by rw[l,HP.out];show 0<(p:Int)+1/\(p:Int)+1<10000000;omega) S U);have hh:=HG.out.trans (I.out.gw O);obtain⟨m',hq⟩:∃m':Nat,m'=if(k':Int)=12 then m+1 else m:=⟨_,rfl⟩
      have hC:m'<=n:=by
       rw[hq];split
       .rename_i e;have:m≠n:=λe2=>Q ⟨e,e2⟩;omega
       .exact hJ
      rw[<-hq] at c;have hi:∀w',(∃A ow2,Gw X' ow' ((((wr.setCell ⟨M,1,none⟩ (Jn ((p:Int)+1))).alloc (.cells #[Jn (k':Int),Jn nn] 174)).drew).drew) A ow2 w')->w'.heap[w.heap.size+1]? =some (Obj.cells fQ 171 (0,0))/\w'.heap[wr.heap.size]? =some (Obj.cells #[Jn (k':Int),Jn nn] 174 (0,0)):=by
       rintro w' ⟨A,ow2,f⟩;have e1:=T8 HM.out O (T:=171) (by decide) _ _ h4.out;exact⟨u.NT f _ _ _ e1 (by decide),u.NT f _ _ _ (by rw[dv,dv];exact gA _ _ _ _) (by decide)⟩
      have h5:=ag (show((wr.setCell ⟨M,1,none⟩ (Jn ((p:Int)+1))).alloc (.cells #[Jn (k':Int),Jn nn] 174)).heap[w.heap.size+1]? =some (.cells fQ 171) from T8 HM.out ((aY wr M 1 _).alloc _) (by decide) _ _ h4.out);have hd:=ag hh;have hv:=ag hq;have j:=ag hi;have hw:=ag hC;have hE:(∃er d o,dV C s2 k' nn=.err er d o)\/Hid (cl (iM.getD k' 0) #[Pt M,Jn nn] ((((wr.setCell ⟨M,1,none⟩ (Jn ((p:Int)+1))).alloc (.cells #[Jn (k':Int),Jn nn] 174)).drew).drew) λe w'=>e=.returned .nilIface/\ya B K X ow w M b C n r (w.heap.size+1) wr.heap.size k' nn m' k w'):=by
       cases hR:dV C s2 k' nn with
       |bad=>exact absurd hR U
       |err er d o=>exact .inl ⟨er,d,o,rfl⟩
       |ok s'=>
        rw[hR] at c HC;refine .inr ?_;refine ag (HC.out.mono ?_);rintro e w' ⟨rfl,A,ow2,D,f⟩;exact⟨rfl,(j.out w' ⟨A,ow2,f⟩).1,(j.out w' ⟨A,ow2,f⟩).2,k,ew _,m',rfl,hw.out,(j.out w' ⟨A,ow2,f⟩).1,A,ow2,hd.out.trans f,.inl ⟨s',D,c⟩⟩
       |done t o=>
        rw[hR] at c HC;refine .inr ?_;cases c;refine ag (HC.out.mono ?_);rintro e w' ⟨rfl,A,ow2,D,f⟩;exact⟨rfl,(j.out w' ⟨A,ow2,f⟩).1,(j.out w' ⟨A,ow2,f⟩).2,0,kc _,m',rfl,hw.out,(j.out w' ⟨A,ow2,f⟩).1,A,ow2,hd.out.trans f,.inr ⟨t,o,D,rfl⟩⟩
      rcases hE with⟨er,d,o,hR⟩|HE
      .rw[hR] at c HC;cases c;have HE:Hid (cl (iM.getD k' 0) #[Pt M,Jn nn] ((((wr.setCell ⟨M,1,none⟩ (Jn ((p:Int)+1))).alloc (.cells #[Jn (k':Int),Jn nn] 174)).drew).drew) λe w'=>∃tv xv,e=.returned (.iface tv xv)/\Gz B K X ow w M b C fQ (w.heap.size+1) wr.heap.size k' nn m' er d o (.iface tv xv) w'):=by
        refine HC.out.mono ?_;rintro e w' ⟨v,kk,rfl,h9,hB,A,ow2,s',D,f,h1,h2⟩;obtain⟨tv,xv,rfl⟩:=hB.form;exact⟨tv,xv,rfl,⟨kk,h9,hB⟩,(j.out w' ⟨A,ow2,f⟩).1,(j.out w' ⟨A,ow2,f⟩).2,A,ow2,s',D,hd.out.trans f,h1,h2⟩
       clear HC u i h6 O hh hi ha U hR Z I HM HG h4 hc HP HR hD J he j;obtain⟨F,hF⟩:∃F,F=iM.getD k' 0:=⟨_,rfl⟩;have hA:=DM k' S;rw[<-hF] at hA HE;have hI:(k':Int)<15:=by omega
       have qT:((wr.setCell ⟨M,1,none⟩ (Jn ((p:Int)+1))).alloc (.cells #[Jn (k':Int),Jn nn] 174)).cell? ⟨w.heap.size+1,k',none⟩=some (.func (.func F) #[] #[]):=(ae h5.out k').trans hA;have q80:((wr.setCell ⟨M,1,none⟩ (Jn ((p:Int)+1))).alloc (.cells #[Jn (k':Int),Jn nn] 174)).cell? ⟨wr.heap.size,0,none⟩=some (Jn (k':Int)):=(ae (gA _ _ _ _) 0).trans rfl;have q81:((wr.setCell ⟨M,1,none⟩ (Jn ((p:Int)+1))).alloc (.cells #[Jn (k':Int),Jn nn] 174)).cell? ⟨wr.heap.size,1,none⟩=some (Jn nn):=(ae (gA _ _ _ _) 1).trans rfl;have HA:=ag hA;have hP:=Mv;have hg:(((k':Int)==12)=true/\((m:Int)==(n:Int))=false/\m'=m+1)\/((k':Int)==12)=false/\m'=m/\m=m:=by
        have:=hv.out;by_cases e:(k':Int)=12
        .rw[fN e] at this;exact .inl ⟨by simpa using e,by rw[j2];intro e2;exact Q ⟨e,by omega⟩,this⟩
        .rw[fb e] at this;exact .inr ⟨by simpa using e,this,rfl⟩
       have ho:k'=0\/k'=1\/k'=2\/k'=3\/k'=4\/k'=5\/k'=6\/k'=7\/k'=8\/k'=9\/k'=10\/k'=11\/k'=12\/k'=13\/k'=14:=by omega
       clear h5 hA;rcases ho with e|e|e|e|e|e|e|e|e|e|e|e|e|e|e
       all_goals
        rcases hg with⟨b12,bmn,E⟩|⟨b12,E,bmn⟩
       all_goals first|(exfalso;rw[e] at b12;revert b12;decide;done)|skip
       all_goals
        have h3:=ag E;clear E;rw[e] at hF;simp only[iM,Sc,RZ] at hF;rw[hF] at HE;clear e;go_wp2;go_region_held3 (λV=>V.cell? ⟨wr.heap.size,0,none⟩=some (Jn (k':Int))/\V.cell? ⟨wr.heap.size,1,none⟩=some (Jn nn)/\V.cell? ⟨w.heap.size+1,k',none⟩=some (.func (.func F) #[] #[])) (go_keep) (first|((first|go_at_call 116|go_at_call 117|go_at_call 118|go_at_call 119|go_at_call 120|go_at_call 121|go_at_call 122|go_at_call 123|go_at_call 124|go_at_call 125|go_at_call 126|go_at_call 127|go_at_call 128|go_at_call 129|go_at_call 130);refine HE.out.mono ?_;rintro e w9 ⟨tv,xv,rfl,g⟩;have q0:w9.cell? ⟨wr.heap.size,0,none⟩=some (Jn (k':Int)):=(ae g.2.2.1 0).trans rfl;have q1:w9.cell? ⟨wr.heap.size,1,none⟩=some (Jn nn):=(ae g.2.2.1 1).trans rfl;have q2:w9.cell? ⟨w.heap.size+1,k',none⟩=some (.func (.func F) #[] #[]):=(ae g.2.1 k').trans HA.out;obtain⟨gE,zE,q3,q4⟩:=g.frame;have Y:=ag g;clear g))
        all_goals
         go_wp2;go_region;go_wp2;go_ret2;exact Y.out.fin _ ⟨_,rfl⟩ _ (by have:=h3.out;omega)
      .obtain⟨kk,h9⟩:∃kk,kk=k:=⟨_,rfl⟩;rw[<-h9] at HE he;clear HC u i h6 O hh hi ha U Z I HM HG h4 hc HP HR hD J j c h9;obtain⟨F,hF⟩:∃F,F=iM.getD k' 0:=⟨_,rfl⟩;have hA:=DM k' S;rw[<-hF] at hA HE;have hI:(k':Int)<15:=by omega
       have qT:((wr.setCell ⟨M,1,none⟩ (Jn ((p:Int)+1))).alloc (.cells #[Jn (k':Int),Jn nn] 174)).cell? ⟨w.heap.size+1,k',none⟩=some (.func (.func F) #[] #[]):=(ae h5.out k').trans hA;have q80:((wr.setCell ⟨M,1,none⟩ (Jn ((p:Int)+1))).alloc (.cells #[Jn (k':Int),Jn nn] 174)).cell? ⟨wr.heap.size,0,none⟩=some (Jn (k':Int)):=(ae (gA _ _ _ _) 0).trans rfl;have q81:((wr.setCell ⟨M,1,none⟩ (Jn ((p:Int)+1))).alloc (.cells #[Jn (k':Int),Jn nn] 174)).cell? ⟨wr.heap.size,1,none⟩=some (Jn nn):=(ae (gA _ _ _ _) 1).trans rfl;have HA:=ag hA;have hg:(((k':Int)==12)=true/\((m:Int)==(n:Int))=false/\m'=m+1)\/((k':Int)==12)=false/\m'=m/\m=m:=by
        have:=hv.out;by_cases e:(k':Int)=12
        .rw[fN e] at this;exact .inl ⟨by simpa using e,by rw[j2];intro e2;exact Q ⟨e,by omega⟩,this⟩
        .rw[fb e] at this;exact .inr ⟨by simpa using e,this,rfl⟩
       have ho:k'=0\/k'=1\/k'=2\/k'=3\/k'=4\/k'=5\/k'=6\/k'=7\/k'=8\/k'=9\/k'=10\/k'=11\/k'=12\/k'=13\/k'=14:=by omega
       clear h5 hA;rcases ho with e|e|e|e|e|e|e|e|e|e|e|e|e|e|e
       all_goals
        rcases hg with⟨b12,bmn,E⟩|⟨b12,E,bmn⟩
       all_goals first|(exfalso;rw[e] at b12;revert b12;decide;done)|skip
       all_goals
        have h3:=ag E;clear E;rw[e] at hF;simp only[iM,Sc,RZ] at hF;rw[hF] at HE;clear e;go_wp2;go_region_held3 (λV=>V.cell? ⟨wr.heap.size,0,none⟩=some (Jn (k':Int))/\V.cell? ⟨wr.heap.size,1,none⟩=some (Jn nn)/\V.cell? ⟨w.heap.size+1,k',none⟩=some (.func (.func F) #[] #[])) (go_keep) (first|((first|go_at_call 116|go_at_call 117|go_at_call 118|go_at_call 119|go_at_call 120|go_at_call 121|go_at_call 122|go_at_call 123|go_at_call 124|go_at_call 125|go_at_call 126|go_at_call 127|go_at_call 128|go_at_call 129|go_at_call 130);refine HE.out.mono ?_;rintro e w9 ⟨rfl,g⟩;have q0:w9.cell? ⟨wr.heap.size,0,none⟩=some (Jn (k':Int)):=(ae g.2.1 0).trans rfl;have q1:w9.cell? ⟨wr.heap.size,1,none⟩=some (Jn nn):=(ae g.2.1 1).trans rfl;have q2:w9.cell? ⟨w.heap.size+1,k',none⟩=some (.func (.func F) #[] #[]):=(ae g.1 k').trans HA.out;have Y:=ag g;clear g))
        all_goals
         go_wp2;go_roundw
         case rel=>exact Y.out.rel (by have:=h3.out;omega)
         case measure=>exact Y.out.Q7 (by have:=h3.out;omega) he.out
     .rw[ha,fb ht] at c;cases c
  .have hy:=hx;obtain⟨out,H,_⟩:=hx;obtain⟨c0,c1,c2,c3,c4,c5,c6,c7,c8,c9,c10,c11⟩:=bq H;have HR:=ag (gM wr M 1 c8);have HF:Hid (vE B K X ow w M b C r (.returned (.tuple #[Jn (m:Nat),.nilIface])) wr):=by
    subst hr;exact⟨_,rfl,rfl,X',ow',hy,hG⟩
   clear c0 c1 c2 c3 c4 c5 c6 c7 c8 c9 c10 c11 H hG hj;go_wp2_with fail;refine HR.out.mono ?_;rintro e V ⟨rfl,hu⟩;obtain rfl:wr=V:=hu.symm;go_wp2;go_ret2;exact HF.out
end
end Go.Proofs.YtlobegpjenabaaaGreatDoor
