import Derived.Test.YtlobegpjenabaaaGreatDoorT05
namespace Go.Proofs.YtlobegpjenabaaaGreatDoor
open Go.RowKit Tryz
set_option linter.unusedSimpArgs false
set_option linter.unusedVariables false
set_option linter.defProp false
set_option maxRecDepth 100000
set_option maxHeartbeats 4000000
def yd:=@List.drop_succ_cons
def RQ:=@List.drop_zero
def Sq:=@congrArg
def Su:=@List.contains_iff_mem
def SG:=@Array.toList_inj
def SV:=@List.drop_drop
def Te:=@List.take_succ_cons
def Tf:=@List.getElem_of_mem
variable {base e n k B g4 g5 c4 c5:Nat} {xs vs ys es fs:a7} {wr w1 w' w2 w4 w5:aa} {v' x2 x u u2 u3 x1:al} {t:bi} {ds:List D} {zs:List ao} {a:Bool} {P P':a9}
def P9(s:ao):Sum (Int×Nat) (List D×List (Bool×List D))->xX (List D)
 |.inl e=>.inl e
 |.inr st=>if st.2.isEmpty then .inr st.1 else .inl (2,s.size)
def GS(s:ao)(a:s.size<=1000)(n i:Nat)(st:List D×List (Bool×List D)):xX (List D):=P9 s (gK (gC s a n i) st)
theorem Hs(s:ao)(b:s.size<=1000):fY s=GS s b (s.size+1) 0 ([],[]):=by
 unfold fY GS;rw[S3 b];cases gK (gC s b (s.size+1) 0) ([],[])<;>rfl
theorem oJ(s:ao)(b:s.size<=1000):∀(n m i:Nat),s.size-i<n->s.size-i<m->gC s b n i=gC s b m i
 |0,_,_,h,_=>absurd h (by omega)
 |_,0,_,_,h=>absurd h (by omega)
 |n+1,m+1,i,h1,h2=>by
  rw[gC,gC];by_cases hi:i<s.size
  .have c:=jt s i hi;rw[fN hi,fN hi,oJ s b n m (i+em (s.data.toList.drop i)) (by omega) (by omega)]
  .rw[fb hi,fb hi]
def G(s:ao)(a:s.size<=1000)(i:Nat)(st:List D×List (Bool×List D)):xX (List D):=GS s a (s.size-i+1) i st
theorem GE(s:ao)(b:s.size<=1000)(i:Nat)(st:List D×List (Bool×List D))(hi:¬i<s.size):G s b i st=P9 s (.inr st):=by
 unfold G GS;rw[gC,fb hi];rfl
theorem NE(s:ao)(b:s.size<=1000)(i:Nat)(st:List D×List (Bool×List D))(hi:i<s.size)(c:bI (bP s i).data.toList=7):G s b i st=G s b (i+em (s.data.toList.drop i)) st:=by
 have d:=jt s i hi;unfold G GS;rw[gC,fN hi,S3 c,oJ s b (s.size-i) (s.size-(i+em (s.data.toList.drop i))+1) _ (by omega) (by omega)]
theorem nO(s:ao)(b:s.size<=1000)(i:Nat)(st:List D×List (Bool×List D))(hi:i<s.size)(d:¬bI (bP s i).data.toList=7):G s b i st=match bJ st.1 st.2 (bP s i).data.toList with|.inl e=>.inl (e,i)|.inr c=>G s b (i+em (s.data.toList.drop i)) c:=by
 have f:=jt s i hi;unfold G GS;rw[gC,fN hi,Tk d,oJ s b (s.size-i) (s.size-(i+em (s.data.toList.drop i))+1) _ (by omega) (by omega)];simp only[gK];cases bJ st.1 st.2 (bP s i).data.toList<;>rfl
theorem jU(s:ao)(i:Nat):(bP s i).data.toList=(s.data.toList.drop i).take (em (s.data.toList.drop i)):=by
 unfold bP;rw[SF];congr 1;omega
theorem oD(s:ao)(i:Nat)(hi:i<s.size)(d:cY s[i]=0)(b:¬s[i].toNat=59):em (s.data.toList.drop i)=1/\(bP s i).data.toList=[s[i]]:=by
 have c:em (s.data.toList.drop i)=1:=by
  rw[dt s i hi];unfold em;simp[d,b]
 refine⟨c,?_⟩;rw[jU,c,dt s i hi];rfl
theorem gy(c:bp):bI [c]=if c.toNat=40 then 1 else if c.toNat=41 then 2 else if c.toNat=39 then 3 else if c.toNat=32\/c.toNat=10\/c.toNat=59 then 7 else if cY c=0 then 0 else lF [c]:=rfl
theorem i7(c:bp)(h:c.toNat=40\/c.toNat=41\/c.toNat=39\/c.toNat=32\/c.toNat=10\/c.toNat=59):cY c=0:=by
 unfold cY;rcases h with h|h|h|h|h|h<;>rw[h]<;>rfl
theorem Ay:∀l:au,cX true l=yx l+cX false (l.drop (yx l))
 |[]=>rfl
 |c::r=>by
  have b:=Ay r;by_cases h:c.toNat=10
  .simp only[yx,cX,h,Ty,RQ,or_true];omega
  .simp only[yx,cX,h,SI,yd];omega
theorem iD:∀(l:au) (b:Bool),cX false (l.drop (cX b l))=0
 |[],b=>by simp[cX]
 |c::r,false=>by
  have h1:=iD r false;have h2:=iD r true;by_cases a:c.toNat=32\/c.toNat=10
  .simp only[cX];rw[fN a,yd];exact h1
  .by_cases b:c.toNat=59
   .simp only[cX];rw[fb a,fN b,yd];exact h2
   .simp only[cX];rw[fb a,fb b,RQ];simp only[cX];rw[fb a,fb b]
 |c::r,true=>by
  have h1:=iD r false;have h2:=iD r true;by_cases a:c.toNat=10
  .simp only[cX];rw[fN a,yd];exact h1
  .simp only[cX];rw[fb a,yd];exact h2
theorem kW(l:au)(i:Nat):aJ l (aJ l i)=aJ l i:=by
 have h:=iD (l.drop i) false;rw[SV] at h;show aJ l i+cX false (l.drop (aJ l i))=aJ l i;unfold aJ at *;omega
theorem MB(s:ao)(j:Nat)(b:j<s.size)(h:aJ s.data.toList j=j):¬s[j].toNat=32/\¬s[j].toNat=10/\¬s[j].toNat=59:=by
 refine⟨λe=> ?_,λe=> ?_,λe=> ?_⟩
 .have:=kX s j b (RP e);have:=fe s.data.toList (j+1);omega
 .have:=kX s j b (RA e);have:=fe s.data.toList (j+1);omega
 .have h1:=xx s j b e;have h2:=NQ s j b (by omega);have h3:j+1<=cF s.data.toList (j+1):=by unfold cF;omega
  omega
theorem qD(s:ao)(c:s.size<=1000):∀(n i:Nat) (st:List D×List (Bool×List D)),s.size-i<=n->i<=s.size->G s c i st=G s c (aJ s.data.toList i) st
 |n,i,st,l,hi=>by
  by_cases hlt:i<s.size
  .by_cases h1:s[i].toNat=32\/s[i].toNat=10
   .have b:=i7 s[i] (by omega);obtain⟨d,hp⟩:=oD s i hlt b (by omega);cases n with
    |zero=>omega
    |succ n=>
     rw[NE s c i st hlt (by rw[hp,gy,fb (by omega),fb (by omega),fb (by omega),fN (by omega)]),d,qD s c n (i+1) st (by omega) (by omega),kX s i hlt h1]
   .by_cases h2:s[i].toNat=59
    .have b:=i7 s[i] (by omega);have d:em (s.data.toList.drop i)=yx (s.data.toList.drop i):=by rw[dt s i hlt];unfold em;simp[b,h2]
     have f:=jt s i hlt;have h:bI (bP s i).data.toList=7:=by
      rw[jU];obtain⟨q,j⟩:∃q,em (s.data.toList.drop i)=q+1:=⟨em (s.data.toList.drop i)-1,by omega⟩;rw[j,dt s i hlt,Te];unfold bI;simp[h2]
     cases n with
     |zero=>omega
     |succ n=>
      rw[NE s c i st hlt h,qD s c n (i+em (s.data.toList.drop i)) st (by omega) (by omega),<-xx s i hlt h2]
      congr 1
      have g:=Ay (s.data.toList.drop i);rw[SV] at g;unfold cF aJ;rw[d];omega
    .rw[Ed s i hlt (by omega) (by omega) h2]
  .rw[Az s i (by omega)]
theorem kC(s:ao)(j:Nat)(b:j<s.size):s.data.toList.getD j 0=s[j]:=by
 rw[pk,fA (by simpa using b)];rfl
def pF(s:ao)(a:s.size<=1000)(aH:List D)(os:List (Bool×List D)):xX (D×Nat)->xX (List D)
 |.inl e=>.inl e
 |.inr (d,k)=>G s a k (gQ aH os d)
theorem PI(s:ao)(m:s.size<=1000)(n j:Nat)(aH:List D)(os:List (Bool×List D))(c:j<s.size)(A:aJ s.data.toList j=j)(h:¬s[j].toNat=40)(i:¬s[j].toNat=41)(g:¬s[j].toNat=39):
  G s m j (aH,os)=pF s m aH os (rd (n+1) s.data.toList os.length j none):=by
 obtain⟨F,H,z⟩:=MB s j c A;simp only[rd];rw[kC s j c,fb i,fb h,fb g];by_cases p:cY s[j]=0
 .obtain⟨w,hp⟩:=oD s j c p z;have d:bI [s[j]]=0:=by rw[gy,fb h,fb i,fb g,fb (by omega),fN p]
  have r:bH s.data.toList j=j:=by unfold bH;rw[dt s j c];simp only[oS];rw[fN p];rfl
  rw[fN r,nO s m j _ c (by rw[hp,d];decide),hp];have f:bJ aH os [s[j]]=.inl 2:=by
   unfold bJ;rw[d,fb (by decide),fb (by decide),fb (by decide)];cases ig [s[j]]<;>rfl
  simp only[f,pF]
 .have w:em (s.data.toList.drop j)=oS (s.data.toList.drop j):=by
   rw[dt s j c];unfold em;rw[fN (by simpa using p)]
  have y:=jt s j c;have r:bH s.data.toList j=j+em (s.data.toList.drop j):=by rw[w];rfl
  rw[fb (by omega),r];have hp:=jU s j;have o:j+em (s.data.toList.drop j)-j=em (s.data.toList.drop j):=by omega
  rw[o,<-hp];have C:(bP s j).data.toList.headD 0=s[j]:=by
   rw[hp];obtain⟨q,E⟩:∃q,em (s.data.toList.drop j)=q+1:=⟨em (s.data.toList.drop j)-1,by omega⟩;rw[E,dt s j c,Te];rfl
  have d:bI (bP s j).data.toList=lF (bP s j).data.toList:=by
   unfold bI;rw[C,fb h,fb i,fb g,fb (by omega),fb p]
  generalize l:em (s.data.toList.drop j)=L at *
  rcases j5 (bP s j).data.toList with⟨h1,h2⟩|⟨h1,b,h2,h3⟩|⟨h1,h2,h3,v⟩|⟨h1,h2⟩
  .rw[nO s m j _ c (by rw[d,h1];decide)];have f:bJ aH os (bP s j).data.toList=.inl 2:=by
    unfold bJ;rw[d,h1,fb (by decide),fb (by decide),fb (by decide),h2]
   simp only[f,h2,pF]
  .rw[nO s m j _ c (by rw[d,h1];decide),l];have f:bJ aH os (bP s j).data.toList=.inr (gQ aH os (Qz b)):=by
    unfold bJ;rw[d,h1,fb (by decide),fb (by decide),fb (by decide),h3];rfl
   simp only[f,h3,pF]
  .rw[nO s m j _ c (by rw[d,h1];decide),l];have f:bJ aH os (bP s j).data.toList=.inr (gQ aH os (num (if TL (bP s j).data.toList then-(val (body (bP s j).data.toList)) else val (body (bP s j).data.toList)))):=by
    unfold bJ;rw[d,h1,fb (by decide),fb (by decide),fb (by decide),v];rfl
   simp only[f,v,pF]
  .rw[nO s m j _ c (by rw[d,h1];decide),l];have f:bJ aH os (bP s j).data.toList=.inr (gQ aH os (sym (bP s j).data.toList)):=by
    unfold bJ;rw[d,h1,fb (by decide),fb (by decide),fb (by decide),h2];rfl
   simp only[f,h2,pF]
theorem Dk(s:ao)(b:s.size<=1000)(j:Nat)(st:List D×List (Bool×List D))(d:j<s.size)(h:s[j].toNat=40\/s[j].toNat=41\/s[j].toNat=39):
  G s b j st=match bJ st.1 st.2 [s[j]] with|.inl e=>.inl (e,j)|.inr c=>G s b (j+1) c:=by
 obtain⟨f,hp⟩:=oD s j d (i7 s[j] (by omega)) (by omega);rw[nO s b j st d ?_,f,hp];rw[hp,gy];rcases h with h|h|h
 .rw[fN h];decide
 .rw[fb (by omega),fN h];decide
 .rw[fb (by omega),fb (by omega),fN h];decide
mutual
theorem vD (s:ao) (c:s.size<=1000):∀(n j:Nat) (aH:List D) (os:List (Bool×List D)),j<s.size->aJ s.data.toList j=j->os.length<=20->((q:j<s.size)->s[j].toNat=41->os.head?.map (·.1)≠some false)->2 *(s.size-j)<=n->
  G s c j (aH,os)=pF s c aH os (rd n s.data.toList os.length j none)
 |0,j,aH,os,q,_,_,_,x=>by omega
 |n+1,j,aH,os,q,z,ho,A,x=>by
  by_cases a:s[j].toNat=41
  .rw[Dk s c j _ q (by omega)];have l:bI [s[j]]=2:=by rw[gy,fb (by omega),fN a]
   have o:bJ aH os [s[j]]=.inl 2:=by
    unfold bJ;rw[l,fb (by decide),fb (by decide),fN rfl];have:=A q a
    match os,this with
    |[],_=>rfl
    |(true,_)::_,_=>rfl
    |(false,_)::_,h=>exact absurd rfl h
   simp only[rd,o];rw[kC s j q,fN a];rfl
  by_cases g:s[j].toNat=40
  .rw[Dk s c j _ q (by omega)];have l:bI [s[j]]=1:=by rw[gy,fN g]
   simp only[rd];rw[kC s j q,fb a,fN g];by_cases b:20<=os.length
   .have o:bJ aH os [s[j]]=.inl 3:=by unfold bJ;rw[l,fN rfl,fN b]
    simp only[o];rw[fN b];rfl
   .have o:bJ aH os [s[j]]=.inr (aH,(false,[])::os):=by unfold bJ;rw[l,fN rfl,fb b]
    simp only[o];rw[fb b];exact GF s c n (j+1) aH os [] (by omega) (by omega) (by omega)
  by_cases r:s[j].toNat=39
  .rw[Dk s c j _ q (by omega)];have l:bI [s[j]]=3:=by rw[gy,fb g,fb a,fN r]
   simp only[rd];rw[kC s j q,fb a,fb g,fN r];by_cases b:20<=os.length
   .have o:bJ aH os [s[j]]=.inl 3:=by unfold bJ;rw[l,fb (by decide),fN rfl,fN b]
    simp only[o];rw[fN b];rfl
   .have o:bJ aH os [s[j]]=.inr (aH,(true,[])::os):=by unfold bJ;rw[l,fb (by decide),fN rfl,fb b]
    simp only[o];rw[fb b,qD s c (s.size-(j+1)) (j+1) _ (by omega) (by omega)];have w:=im s.data.toList (j+1) (by rw[dP];omega);have u:=fe s.data.toList (j+1);have hid:=kW s.data.toList (j+1);rw[dP] at *
    generalize aJ s.data.toList (j+1)=k at *
    by_cases m:k=s.size
    .rw[fN m,GE s c k _ (by omega)];rfl
    .rw[fb m,vD s c n k aH ((true,[])::os) (by omega) hid (by simp;omega) (by simp) (by omega)];simp only[j1];cases rd n s.data.toList (os.length+1) k none<;>rfl
  exact PI s c n j aH os q z g a r
theorem GF (s:ao) (c:s.size<=1000):∀(n i:Nat) (aH:List D) (os:List (Bool×List D)) (f:List D),i<=s.size->os.length<20->2 *(s.size-i)+1<=n->
  G s c i (aH,(false,f)::os)=pF s c aH os (rd n s.data.toList (os.length+1) i (some f))
 |0,i,aH,os,f,hi,ho,x=>by omega
 |n+1,i,aH,os,f,hi,ho,x=>by
  rw[qD s c (s.size-i) i _ (by omega) hi];simp only[rd];have w:=im s.data.toList i (by rw[dP];omega);have u:=fe s.data.toList i;have hid:=kW s.data.toList i;rw[dP] at *
  generalize aJ s.data.toList i=k at *
  by_cases m:k=s.size
  .rw[fN m,GE s c k _ (by omega)];rfl
  .have l:k<s.size:=by omega
   rw[fb m,kC s k l];by_cases a:s[k].toNat=41
   .rw[fN a,Dk s c k _ l (by omega)];have v:bI [s[k]]=2:=by rw[gy,fb (by omega),fN a]
    have o:bJ aH ((false,f)::os) [s[k]]=.inr (gQ aH os (ju f)):=by
     unfold bJ;rw[v,fb (by decide),fb (by decide),fN rfl];rfl
    simp only[o];rfl
   .rw[fb a,vD s c n k aH ((false,f)::os) l hid (by simp;omega) (λ_ h=>absurd h a) (by omega)];simp only[j1];cases hr:rd n s.data.toList (os.length+1) k none with
    |inl e=>rfl
    |inr p=>
     obtain⟨d,y⟩:=p;have t:=eR s.data.toList n (os.length+1) k none d y (by rw[dP];omega) (λ_=>by rw[dP];omega) hr;rw[dP] at t;exact GF s c n y aH os (f++[d]) (by omega) ho (by omega)
end
theorem NF(s:ao)(g:s.size<=1000):∀(n i:Nat) (b:List D),i<=s.size->s.size-i<n->G s g i (b,[])=dz n s.data.toList i b
 |0,i,b,hi,m=>by omega
 |n+1,i,b,hi,m=>by
  rw[qD s g (s.size-i) i _ (by omega) hi];simp only[dz];have l:=im s.data.toList i (by rw[dP];omega);have j:=fe s.data.toList i;have hid:=kW s.data.toList i;rw[dP] at *
  generalize aJ s.data.toList i=k at *
  by_cases f:k=s.size
  .rw[fN f,GE s g k _ (by omega)];rfl
  .rw[fb f,vD s g (2 *s.size+2) k b [] (by omega) hid (by simp) (by simp) (by omega)];simp only[R0];cases hr:rd (2 *s.size+2) s.data.toList 0 k none with
   |inl e=>rfl
   |inr p=>
    obtain⟨d,h⟩:=p;have c:=eR s.data.toList _ 0 k none d h (by rw[dP];omega) (λ_=>by rw[dP];omega) hr;rw[dP] at c;exact NF s g n h (b++[d]) (by omega) (by omega)
theorem pe(s:ao)(b:s.size<=1000):fY s=dz (s.size+1) s.data.toList 0 []:=by
 rw[Hs s b];exact NF s b (s.size+1) 0 [] (by omega) (by omega)
theorem qi(p:a8)(w:aa):(Instr.typeAssert (.iface 136 (.pointer p)) 81 136 true).run prog w=.ok (.tuple #[.pointer p,.bool true]) w:=by kernel_rfl
theorem o8(v:al)(w:aa):(Instr.typeAssert (.iface 130 v) 81 136 true).run prog w=.ok (.tuple #[.pointer none,.bool false]) w:=by kernel_rfl
theorem mJ(v:al)(w:aa):(Instr.typeAssert (.iface 131 v) 81 136 true).run prog w=.ok (.tuple #[.pointer none,.bool false]) w:=by kernel_rfl
theorem ky(v:al)(w:aa):(Instr.typeAssert (.iface 134 v) 81 136 true).run prog w=.ok (.tuple #[.pointer none,.bool false]) w:=by kernel_rfl
theorem iV(v:al)(w:aa):(Instr.typeAssert (.iface 207 v) 81 136 true).run prog w=.ok (.tuple #[.pointer none,.bool false]) w:=by kernel_rfl
theorem m8(v:al)(w:aa):(Go.binOp .neq 81 (.iface 130 v) (.iface 207 (.agg #[]))).run prog w=.ok (.bool true) w:=by kernel_rfl
theorem lU(v:al)(w:aa):(Go.binOp .neq 81 (.iface 131 v) (.iface 207 (.agg #[]))).run prog w=.ok (.bool true) w:=by kernel_rfl
theorem kj(v:al)(w:aa):(Go.binOp .neq 81 (.iface 134 v) (.iface 207 (.agg #[]))).run prog w=.ok (.bool true) w:=by kernel_rfl
theorem kP(w:aa):(Go.binOp .neq 81 (.iface 207 (.agg #[])) (.iface 207 (.agg #[]))).run prog w=.ok (.bool false) w:=by kernel_rfl
theorem Fg{w:aa}{size:Nat}{v:al}(h:w.ownsRow base e size v n xs):TQ v=n:=dg h
def tW(w:aa)(n:Nat)(l:List D)(x v:al)(wr:aa)(k:Nat):Prop:=
 (∃vs,bT w.heap.size wr v vs/\cH wr n vs (l.take k))/\cK wr (IV wr n) x (l.drop k)/\Below w.heap.size w wr
theorem wG{w:aa}{l:List D}{v:al}(d:k<l.length)(h:bT w.heap.size wr v vs)(f:cH wr n vs (l.take k))(m:IV wr n (.iface t x) l[k])(p:cK wr (IV wr n) x2 (l.drop (k+1)))(hb:Below w.heap.size w wr)(i:aB (λk=>v.ownBlock=some k) wr w1)(ho:w1.ownsRow w.heap.size 81 1 v' (vs.length+1) (vs++[.iface t x])):tW w n l x2 v' w1 (k+1):=by
 have b:aC 205 wr w1:=T1 i (λk c d=>by
  rcases h.2 with⟨g,_⟩|⟨s,j,q,g,hb,o,r⟩
  .rw[g] at d;cases d
  .rw[g] at d;cases d;rw[o];simp)
 refine⟨⟨vs++[.iface t x],?_,?_⟩,cK.ak b (IV.ak b n) _ _ p,hb.trans (i.below hb.size ?_)⟩
 .unfold bT;rw[ga];exact ho
 .rw[mn d];exact cH.append (cH.ak b n _ _ f) ⟨IV.ak b _ _ _ m,trivial⟩
 .intro k d;have:=(ar h d).1;omega
theorem pu(n:Nat)(l:List D)(x:al)(w:aa)(z:IV w (n+1) x (.agg l)):
  cl 56 #[x] w λe w'=>∃v vs,e=.returned (.tuple #[v,.bool true])/\bT w.heap.size w' v vs/\cH w' n vs l/\Below w.heap.size w w':=by
 obtain⟨hl,c⟩:l.length<=1000/\cK w (IV w n) x l:=z;obtain⟨t0,x0,rfl⟩:=c.form;have W:=ag c;clear c;obtain⟨i0,hi,A,C,E⟩:=sv jQ;have F:=ag (ei hi (ei A (ei C E)));clear hi A C E;go_enter func56,ntmps56;go_wp2
 go_loopw [0,4] (λx v wr=>∃k,k<=l.length/\tW w n l x v wr k) (λ_ v _=>l.length-TQ v)
 case atStart=>exact⟨0,kc _,⟨[],bT.nil _ _,trivial⟩,W.out,fL _ _⟩
 case round=>
  obtain⟨k,hk,⟨vs,d,j⟩,c,hb⟩:=hrel;rcases P5 hk with hlt|rfl
  .rw[TM l k hlt] at c;obtain⟨b,v1,v2,rfl,G,L,M⟩:=c;obtain⟨t1,x1,rfl⟩:=IV.form _ _ _ L;obtain⟨t2,x2,rfl⟩:=M.form;have p0:=ae G 0;have p1:=ae G 1;simp at p0 p1;have p:=j.length;have Q:vs.length<=1000:=by rw[p];simp;omega
   have Y:=hb.size;have s:=ag d;have m:=ag j;have O:=ag G;have U:=ag L;have V:=ag M;have H:=ag hb;have y:=ag p;clear d j G L M hb p;have N:=qi;go_wp2_with (at_builtin;refine nl _ rfl (.tmp 14) (.tmp 19) 76 rfl w.heap.size 81 i0 .nilIface 1 16 underlying76 F.out.1 F.out.2.1 F.out.2.2.1 F.out.2.2.2 rfl (by decide) _ vs.length vs rfl (s.out.alloc _) (dq wr.heap.size 0) 1 1 [.iface t1 x1] rfl rfl (RW _ _ _) (by intro u S;simp at S;subst S;rfl) (by decide) (by unfold maxLen;omega) (by omega) (by simp;omega) (wr.heap.size+1) (by simp) ?_);intro g K w1 i f X R;have q:=bC f;have o:=q.at O.out (λh=>by
    rcases s.out.2 with⟨z,_⟩|⟨g',K,cu,z,hb,Z,r⟩
    .rw[z] at h;cases h
    .rw[z] at h;cases h;have:=O.out;rw[Z] at this;simp at this)
   have p2:=ae o 0;have p3:=ae o 1;simp at p2 p3;have J:=ag q;have I:=ag i;clear q i f o;go_wp2;go_roundw
   case rel=>exact⟨k+1,by omega,wG hlt s.out m.out U.out V.out H.out J.out I.out⟩
   case measure=>rw[Fg s.out,y.out];simp[TQ,y.out];omega
  .rw[RK] at c;have c:u0=_:=c;subst c;have N:=iV;have h0:=kP;have s:=ag d;have m:=ag j;have T:=ag hb;clear d j hb;go_wp2;go_ret2;exact⟨_,vs,rfl,s.out,by have:=m.out;rwa [xp] at this,T.out⟩
theorem B0(x:al)(w:aa):
  cl 56 #[.iface 130 x] w λe w'=>e=.returned (.tuple #[.slice none 0 0,.bool false])/\w'=w:=by
 have c:=o8;have b:=m8;go_enter func56,ntmps56;go_wp2
 go_loopw [0,4] (λu v wr=>u=.iface 130 x/\v=.slice none 0 0/\wr=w) (λ_ _ _=>0)
 case atStart=>exact⟨rfl,rfl,rfl⟩
 case round=>
  obtain⟨rfl,rfl,rfl⟩:=hrel;go_wp2;go_ret2;exact⟨rfl,rfl⟩
theorem zj(x:al)(w:aa):
  cl 56 #[.iface 131 x] w λe w'=>e=.returned (.tuple #[.slice none 0 0,.bool false])/\w'=w:=by
 have c:=mJ;have b:=lU;go_enter func56,ntmps56;go_wp2
 go_loopw [0,4] (λu v wr=>u=.iface 131 x/\v=.slice none 0 0/\wr=w) (λ_ _ _=>0)
 case atStart=>exact⟨rfl,rfl,rfl⟩
 case round=>
  obtain⟨rfl,rfl,rfl⟩:=hrel;go_wp2;go_ret2;exact⟨rfl,rfl⟩
theorem tC(x:al)(w:aa):
  cl 56 #[.iface 134 x] w λe w'=>e=.returned (.tuple #[.slice none 0 0,.bool false])/\w'=w:=by
 have c:=ky;have b:=kj;go_enter func56,ntmps56;go_wp2
 go_loopw [0,4] (λu v wr=>u=.iface 134 x/\v=.slice none 0 0/\wr=w) (λ_ _ _=>0)
 case atStart=>exact⟨rfl,rfl,rfl⟩
 case round=>
  obtain⟨rfl,rfl,rfl⟩:=hrel;go_wp2;go_ret2;exact⟨rfl,rfl⟩
theorem gt(n:Nat)(d:D)(x:al)(w:aa)(c:IV w (n+1) x d):
  cl 56 #[x] w λe w'=>∃v vs,e=.returned (.tuple #[v,.bool (aX d)])/\bT w.heap.size w' v vs/\cH w' n vs (aE d)/\Below w.heap.size w w':=by
 match d,c with
 |.agg l,c=>exact pu n l x w c
 |.lit (.int k m),c=>
  cases k<;>first|(cases c;done)|(have h:some _=some x:=c;cases h;exact(B0 _ w).mono λe w' ⟨f,hb⟩=>⟨_,[],f,bT.nil _ _,trivial,by rw[hb];exact fL _ _⟩)
 |.lit (.bool b),c=>have h:some _=some x:=c;cases h;exact(zj _ w).mono λe w' ⟨f,hb⟩=>⟨_,[],f,bT.nil _ _,trivial,by rw[hb];exact fL _ _⟩
 |.lit (.string b),c=>have h:some _=some x:=c;cases h;exact(tC _ w).mono λe w' ⟨f,hb⟩=>⟨_,[],f,bT.nil _ _,trivial,by rw[hb];exact fL _ _⟩
 |.lit (.float _ _),c=>cases c
 |.lit .nil,c=>cases c
 |.nil,c=>cases c
 |.ptr _,c=>cases c
 |.slice l _,c=>exact pu n l x w c.1
 |.iface _ _,c=>cases c
 |.map _,c=>cases c
 |.held _,c=>cases c
theorem lS(s:ao)(w:aa):
  cl 143 #[.string s] w λe w'=>e=.returned (.bool (l7 s.data.toList))/\w'=w:=by
 have b:=ag (B8 s);go_enter func143,ntmps143;go_wp2
 all_goals
  go_ret;refine⟨aS ?_,rfl⟩;rw[b.out];clear b
  simp_all
theorem qP(s:ao)(w:aa):(Instr.typeAssert (.iface 134 (.string s)) 81 134 true).run prog w=.ok (.tuple #[.string s,.bool true]) w:=by kernel_rfl
theorem qQ(v:al)(w:aa):(Instr.typeAssert (.iface 130 v) 81 134 true).run prog w=.ok (.tuple #[.string ⟨#[]⟩,.bool false]) w:=by kernel_rfl
theorem tD(x:al)(w:aa):
  cl 88 #[.iface 130 x] w λe w'=>e=.returned (.tuple #[.string ⟨#[]⟩,.bool false])/\w'=w:=by
 have b:=qQ;go_enter func88,ntmps88;go_wp2;go_ret2;exact⟨rfl,rfl⟩
theorem o9(v:al)(w:aa):(Instr.typeAssert (.iface 131 v) 81 134 true).run prog w=.ok (.tuple #[.string ⟨#[]⟩,.bool false]) w:=by kernel_rfl
theorem rS(x:al)(w:aa):
  cl 88 #[.iface 131 x] w λe w'=>e=.returned (.tuple #[.string ⟨#[]⟩,.bool false])/\w'=w:=by
 have b:=o9;go_enter func88,ntmps88;go_wp2;go_ret2;exact⟨rfl,rfl⟩
theorem jE(v:al)(w:aa):(Instr.typeAssert (.iface 207 v) 81 134 true).run prog w=.ok (.tuple #[.string ⟨#[]⟩,.bool false]) w:=by kernel_rfl
theorem pU(x:al)(w:aa):
  cl 88 #[.iface 207 x] w λe w'=>e=.returned (.tuple #[.string ⟨#[]⟩,.bool false])/\w'=w:=by
 have b:=jE;go_enter func88,ntmps88;go_wp2;go_ret2;exact⟨rfl,rfl⟩
theorem kz(v:al)(w:aa):(Instr.typeAssert (.iface 136 v) 81 134 true).run prog w=.ok (.tuple #[.string ⟨#[]⟩,.bool false]) w:=by kernel_rfl
theorem kJ(x:al)(w:aa):
  cl 88 #[.iface 136 x] w λe w'=>e=.returned (.tuple #[.string ⟨#[]⟩,.bool false])/\w'=w:=by
 have b:=kz;go_enter func88,ntmps88;go_wp2;go_ret2;exact⟨rfl,rfl⟩
theorem lT(s:ao)(w:aa):
  cl 88 #[.iface 134 (.string s)] w λe w'=>(∃t,e=.returned (.tuple #[.string t,.bool (!(l7 s.data.toList))])/\(l7 s.data.toList=false->t=s))/\w'=w:=by
 have b:=qP;cases hk:l7 s.data.toList with
 |true=>
  go_enter func88,ntmps88;go_wp2_with (go_at_call 143;refine(lS _ _).mono ?_;rintro e w' ⟨rfl,rfl⟩;rw[hk]);go_ret2;exact⟨⟨_,rfl,λh=>by cases h⟩,rfl⟩
 |false=>
  go_enter func88,ntmps88;go_wp2_with (go_at_call 143;refine(lS _ _).mono ?_;rintro e w' ⟨rfl,rfl⟩;rw[hk]);go_ret2;exact⟨⟨_,rfl,λ_=>rfl⟩,rfl⟩
theorem iZ(n:Nat)(d:D)(x:al)(w:aa)(c:IV w n x d):
  cl 88 #[x] w λe w'=>(∃t,e=.returned (.tuple #[.string t,.bool (cI d)])/\(cI d=true->t.data.toList=bS d))/\w'=w:=by
 cases n with
 |zero=>exact c.elim
 |succ n=>
  match d,c with
  |.agg [],c=>have h:x=_:=c.2;subst h;exact(pU _ w).mono λe w' ⟨f,hb⟩=>⟨⟨_,f,λh=>by cases h⟩,hb⟩
  |.agg (_::_),c=>obtain⟨b,v1,i,rfl,_⟩:=c.2;exact(kJ _ w).mono λe w' ⟨f,hb⟩=>⟨⟨_,f,λh=>by cases h⟩,hb⟩
  |.lit (.int k m),c=>
   cases k<;>first|(cases c;done)|(have h:some _=some x:=c;cases h;exact(tD _ w).mono λe w' ⟨f,hb⟩=>⟨⟨_,f,λh=>by cases h⟩,hb⟩)
  |.lit (.bool b),c=>have h:some _=some x:=c;cases h;exact(rS _ w).mono λe w' ⟨f,hb⟩=>⟨⟨_,f,λh=>by cases h⟩,hb⟩
  |.lit (.string b),c=>
   have h:some _=some x:=c;cases h;refine(lT _ w).mono λe w' ⟨⟨t,f,g⟩,hb⟩=>⟨⟨t,f,λh=> ?_⟩,hb⟩;rw[g (by simpa[cI] using h)];rfl
  |.lit (.float _ _),c=>cases c
  |.lit .nil,c=>cases c
  |.nil,c=>cases c
  |.ptr _,c=>cases c
  |.slice _ _,c=>obtain⟨_,_,b,_,rfl⟩:=c;exact(kJ _ w).mono λe w' ⟨f,hb⟩=>⟨⟨_,f,λh=>by cases h⟩,hb⟩
  |.iface _ _,c=>cases c
  |.map _,c=>cases c
  |.held _,c=>cases c
def bU(w:aa)(v:al)(vs:a7):Prop:=
 ∃a b,v=.slice a vs.length b/\vs.length<=b/\b<=maxLen/\(0<vs.length->∃g c,a=some ⟨g,c,none⟩/\g<w.heap.size/\∀(j:Nat) u,vs[j]? =some u->w.cell? ⟨g,c+j,none⟩=some u)
theorem bT.q{w:aa}{v:al}(h:bT B w v vs):bU w v vs:=by
 obtain⟨a,b,l,h1,h2,h3⟩:=ay h;refine⟨a,b,l,h1,h2,λhp=> ?_⟩;obtain⟨g,c,_,f,d⟩:=h3 hp;exact⟨g,0,c,f,λj u i=>by rw[C4];exact d j u i⟩
theorem bU.below{w:aa}{v:al}(h:bU w v vs)(hb:Below w.heap.size w w'):bU w' v vs:=by
 obtain⟨a,c,m,h1,h2,h3⟩:=h;refine⟨a,c,m,h1,h2,λhp=> ?_⟩;obtain⟨g,b,f,d,i⟩:=h3 hp;exact⟨g,b,f,gr d hb.size,λj u l=>by rw[hb.cell (p:=⟨g,b+j,none⟩) d];exact i j u l⟩
theorem dx{w:aa}{v:al}(h:bU w v vs)(d:cH w n vs ds):∃a b,v=.slice a ds.length b/\ds.length<=b/\b<=maxLen/\
  ∀k (i:k<ds.length),∃g c,a=some (dq g c)/\g<w.heap.size/\∃t x,IV w n (.iface t x) ds[k]/\Cl w g (c+k) (.iface t x):=by
 have p:=d.length;obtain⟨a,b,j,h1,h2,h3⟩:=h;rw[p] at j h1 h3;refine⟨a,b,j,h1,h2,λk i=> ?_⟩;obtain⟨g,c,l,o,m⟩:=h3 (by omega);obtain⟨u,q,f⟩:=d.at k i;obtain⟨t,x,rfl⟩:=IV.form _ _ _ f;exact⟨g,c,l,o,t,x,f,m _ _ q⟩
def ye(B:Nat)(w:aa)(v:al)(a:List ao):Prop:=w.ownsRow B 9 1 v a.length (a.map .string)
theorem ye.nil(B:Nat)(w:aa):ye B w (.slice none 0 0) []:=oh _ _ _ _
theorem qr:(prog.info? 9).map (λi=>(i.zero,i.size,i.bytes))=some (some (.string ⟨#[]⟩),1,16):=by kernel_rfl
theorem vW{w:aa}{v:al}(x:ao)(h:ye B w v zs):
  cl 229 #[v,.string x] w λe w'=>e=.returned (.bool (Lib.containsS zs x))/\w'=w:=by
 obtain⟨a,b,rfl,h1,h2,h3⟩:=ay h;rcases Sd zs.length with c|hp
 .have:zs=[]:=ze.1 c;subst this;exact slices_Contains_string_empty a b x w
 .obtain⟨g,rfl,_,i,d⟩:=h3 hp;unfold maxLen at h2;have:=slices_Contains_string g 0 zs.length b zs x w (ew _) (by omega) (λj f=>by rw[C4];exact d j _ (by simp[f,pk]))
  rwa [xp] at this
theorem eI{b:Bool}(h:a=b):Ending.returned (.tuple #[u,.bool a])=.returned (.tuple #[u,.bool b]):=by rw[h]
def sZ(a:List ao)(ds:List D):Prop:=a.map (λz=>z.data.toList)=ds.map bS
theorem sZ.contains(h:sZ zs ds)(x:ao):Lib.containsS zs x=(ds.map bS).contains x.data.toList:=by
 rw[C2,Lib.containsS_iff,<-h,Su,TG]
 constructor
 .intro b;exact⟨x,b,rfl⟩
 .rintro⟨z,c,e⟩;have:z=x:=by cases z;cases x;congr 1;exact SG.1 e
  exact this▸c
theorem sZ.snoc(b:k<ds.length)(h:sZ zs (ds.take k)){t:ao}(c:t.data.toList=bS ds[k]):sZ (zs++[t]) (ds.take (k+1)):=by
 unfold sZ at *;rw[mn b,s8,s8,h];simp[c]
theorem sZ.length(h:sZ zs ds):zs.length=ds.length:=by
 have:=Sq List.length h;simpa using this
theorem Iy{w:aa}{v:al}(c:wr.ownsRow w.heap.size e 1 v n xs)(hb:Below w.heap.size w wr)(d:aB (λk=>v.ownBlock=some k) wr w1):Below w.heap.size w w1:=
 hb.trans (d.below hb.size (by intro k b;have:=(ar c b).1;omega))
theorem tE(n:Nat)(vs:a7)(ds:List D)(v:al)(w:aa)(m:bU w v vs)(G:cH w n vs ds)(X:ds.length<=1000)(r:Bool)(C:Hid (r=bn [] ds)):
  cl 208 #[v] w λe w'=>(∃u,e=.returned (.tuple #[u,.bool r])/\(r=true->∃zs,ye w.heap.size w' u zs/\sZ zs ds))/\Below w.heap.size w w':=by
 obtain⟨a,h0,rfl,h3,V,s⟩:=dx m G;have R:=ag s;clear s m G;unfold maxLen at V;obtain⟨i0,hi,J,K,L⟩:=sv qr;have Q:=ag (ei hi (ei J (ei K L)));clear hi J K L;go_enter func208,ntmps208;go_wp2
 go_loopw [4,11] (λu i wr=>∃k:Nat,k<=ds.length/\i=Jn k/\kY ds k=true/\(∃zs,ye w.heap.size wr u zs/\sZ zs (ds.take k))/\Below w.heap.size w wr) (λ_ i _=>ds.length-(intOf i).toNat)
 case atStart=>exact⟨0,kc _,rfl,rfl,⟨[],ye.nil _ _,rfl⟩,fL _ _⟩
 case round=>
  obtain⟨k,hk,rfl,z,⟨zs,y,l⟩,hb⟩:=hrel;have E:=ag z;have j:=ag y;have o:=ag l;have O:=ag hb;have h2:=hb.size;have h4:zs.length<=1000:=by have:=l.length;simp at this;omega
  by_cases hlt:k<ds.length
  .obtain⟨g,M,rfl,hg,t,x,H,c0⟩:=R.out k hlt;have d0:wr.cell? (dq g (M+k))=some (.iface t x):=by rw[hb.cell (p:=(dq g (M+k))) hg];exact c0
   have S:=ag (IV.ak (TX hb) _ _ _ H);clear H hb z y l c0;go_wp2_with fail;refine(iZ n ds[k] (.iface t x) _ S.out).mono ?_;rintro e w2 ⟨⟨N,rfl,I⟩,rfl⟩;have q:=ag I;clear I;cases hvd:cI ds[k] with
   |false=>
    have b:=ag (nD ds (k+1) (by rw[ee ds k hlt,hvd];simp) (by omega));clear hvd;go_wp2;go_ret2;exact⟨⟨_,eI (by rw[C.out,b.out]),λh=>by rw[C.out,b.out] at h;cases h⟩,O.out⟩
   |true=>
    have c:=ag hvd;clear hvd;go_wp2_with fail;refine(vW N j.out).mono ?_;rintro e w3 ⟨rfl,rfl⟩;have A:=ag (o.out.contains N);cases hct:Lib.containsS zs N with
    |true=>
     have b:=ag (nD ds (k+1) (by
      rw[ee ds k hlt,c.out];have h1:=A.out;rw[hct,q.out c.out] at h1;unfold gq;rw[TR ds k hlt,<-h1];simp) (by omega))
     clear hct;go_wp2;go_ret2;exact⟨⟨_,eI (by rw[C.out,b.out]),λh=>by rw[C.out,b.out] at h;cases h⟩,O.out⟩
    |false=>
     have F:=ag (show kY ds (k+1)=true from by
      rw[ee ds k hlt,E.out,c.out];have h1:=A.out;rw[hct,q.out c.out] at h1;unfold gq;rw[TR ds k hlt,<-h1];rfl)
     clear hct;go_wp2_with (at_builtin;refine nl _ rfl (.tmp 27) (.tmp 29) 26 rfl w.heap.size 9 i0 (.string ⟨#[]⟩) 1 16 underlying26 Q.out.1 Q.out.2.1 Q.out.2.2.1 Q.out.2.2.2 rfl (by decide) _ zs.length (zs.map .string) rfl (j.out.alloc _) (dq w3.heap.size 0) 1 1 [.string N] rfl rfl (RW _ _ _) (by intro u Z;simp at Z;subst Z;rfl) (by decide) (by unfold maxLen;omega) (by omega) (by simp;omega) (w3.heap.size+1) (by simp) ?_);intro g2 cap2 w1 f d s Y;have U:=ag (bC d);have T:=ag f;clear f d;go_wp2;go_roundw
     case rel=>exact⟨k+1,by omega,rfl,F.out,⟨zs++[N],by unfold ye;rw[ga,s8];exact T.out,o.out.snoc hlt (q.out c.out)⟩,Iy j.out O.out U.out⟩
     case measure=>simp[intOf];omega
  .have W:k=ds.length:=by omega
   subst W;clear hb z y l;go_wp2;go_ret2;exact⟨⟨_,eI (by rw[C.out,<-oX];exact E.out.symm),λ_=>⟨zs,j.out,by have:=o.out;rwa [xp] at this⟩⟩,O.out⟩
def jF(b:D):D:=(aE b).getD 0 (num 0)
def jG(b:D):D:=(aE b).getD 1 (ju [])
def nK(b:D):Bool:=aX b&&decide ((aE b).length=2)
theorem bT.MA{w:aa}{v:al}(h:bT B w v vs):∀(k:Nat) c,v.ownBlock=some k->¬w.heap[k]? =some (Obj.cells c 205 (0,0)):=by
 intro k c b;rcases h.2 with⟨d,_⟩|⟨j,f,i,d,hb,g,r⟩
 .rw[d] at b;cases b
 .rw[d] at b;cases b;rw[g];simp
theorem bT.AR{w:aa}{v:al}(h:bT B w v vs)(d:aB (λk=>v.ownBlock=some k) w w1):aC 205 w w1:=T1 d (λk c b=>h.MA k c b)
theorem bT.below{w:aa}{v:al}(h:bT B w v vs)(hb:Below w.heap.size w w'):bT B w' v vs:=aq h (TW (λ_=>False) hb) (λ_ _ h=>h)
theorem jY{v:al}{b:Bool}(h:a=b):Ending.returned (.tuple #[u,v,.bool a])=.returned (.tuple #[u,v,.bool b]):=by rw[h]
def yg(w:aa)(n:Nat)(ds:List D)(u2 u3:al)(wr:aa)(k:Nat):Prop:=
 (∃xs a,bT w.heap.size wr u2 xs/\cH wr n xs ((ds.take k).map jF)/\bT w.heap.size wr u3 a/\cH wr n a ((ds.take k).map jG))/\(∀g,u2.ownBlock=some g->¬u3.ownBlock=some g)/\Below w.heap.size w wr/\(∀j (b:j<ds.length),j<k->nK ds[j]=true)
theorem GU(ds:List D)(k:Nat)(c:k<ds.length)(h:nK ds[k]=false):ds.all nK=false:=by
 rw[Tp];intro b;rw[RT] at b;have:=b ds[k] (Sj c);rw[h] at this;cases this
theorem K8(ds:List D)(h:∀j (b:j<ds.length),nK ds[j]=true):ds.all nK=true:=by
 rw[RT];intro d c;obtain⟨j,b,rfl⟩:=Tf c;exact h j b
theorem AA{w:aa}(J:k<ds.length)(q:bT w.heap.size wr u2 xs)(M:cH wr n xs ((ds.take k).map jF))(c:bT w.heap.size wr u3 ys)(N:cH wr n ys ((ds.take k).map jG))(p:∀g,u2.ownBlock=some g->¬u3.ownBlock=some g)(hb:Below w.heap.size w wr)(G:∀j (l:j<ds.length),j<k->nK ds[j]=true)(b:Below wr.heap.size wr w2)(y:IV w2 n x1 (jF ds[k]))(z:IV w2 n x2 (jG ds[k]))(ho:nK ds[k]=true)(f:aB (λk=>u2.ownBlock=some k) w2 w4)(E:w4.ownsRow w.heap.size 81 1 (.slice (eb g4) (xs.length+1) c4) (xs.length+1) (xs++[x1]))(A:u2.ownBlock=some g4\/wr.heap.size<=g4)(L:g4<w4.heap.size)(i:aB (λk=>u3.ownBlock=some k) w4 w5)(F:w5.ownsRow w.heap.size 81 1 (.slice (eb g5) (ys.length+1) c5) (ys.length+1) (ys++[x2]))(C:u3.ownBlock=some g5\/w4.heap.size<=g5):
  yg w n ds (.slice (eb g4) (xs.length+1) c4) (.slice (eb g5) (ys.length+1) c5) w5 (k+1):=by
 have k2:aC 205 wr w2:=TX b;have O:aC 205 w2 w4:=(q.below b).AR f;have r:bT w.heap.size w4 u3 ys:=aq (c.below b) f (λg h3 h2=>p g h2 h3);have Q:aC 205 w4 w5:=r.AR i;have k45:=O.trans Q;have k25:=k2.trans k45;have o:∀g,u3.ownBlock=some g->g<wr.heap.size:=λg h=>(ar c h).2;have m:¬u3.ownBlock=some g4:=by
  intro h;rcases A with H|H
  .exact p g4 H h
  .have:=o g4 h;omega
 have d:bT w.heap.size w5 (.slice (eb g4) (xs.length+1) c4) (xs++[x1]):=by
  unfold bT;rw[ga];exact aq E i (λg K h=>by cases K;exact m h)
 refine⟨⟨xs++[x1],ys++[x2],d,?_,by unfold bT;rw[ga];exact F,?_⟩,?_,?_,?_⟩
 .rw[mn J,s8];exact cH.append (cH.ak k25 n _ _ M) ⟨IV.ak k45 _ _ _ y,trivial⟩
 .rw[mn J,s8];exact cH.append (cH.ak k25 n _ _ N) ⟨IV.ak k45 _ _ _ z,trivial⟩
 .intro g h1 h2;cases h1;cases h2;rcases C with I|I
  .exact m I
  .omega
 .have s:Below w.heap.size w w2:=hb.trans (b.mono hb.size);have v:Below w.heap.size w w4:=s.trans (f.below s.size (by intro j l;exact(ar q l).1));exact v.trans (i.below v.size (by intro j l;exact(ar c l).1))
 .intro j l D;rcases P5 (SZ D) with h|h
  .exact G j l h
  .subst h;exact ho
theorem J9(n:Nat)(vs:a7)(ds:List D)(v:al)(w:aa)(F:bU w v vs)(h0:cH w (n+1) vs ds)(hI:ds.length<=1000)(r:Bool)(Q:Hid (r=ds.all nK)):
  cl 149 #[v] w λe w'=>(∃u2 u3 xs ys,e=.returned (.tuple #[u2,u3,.bool r])/\bT w.heap.size w' u2 xs/\bT w.heap.size w' u3 ys/\(r=true->cH w' n xs (ds.map jF)/\cH w' n ys (ds.map jG))/\(r=false->xs=[]/\ys=[]))/\Below w.heap.size w w':=by
 obtain⟨a,hK,rfl,hM,hB,Y⟩:=dx F h0;have hl:=ag Y;clear Y F h0;unfold maxLen at hB;obtain⟨i0,hi,hd,he,hf⟩:=sv jQ;have q:=ag (ei hi (ei hd (ei he hf)));clear hi hd he hf;go_enter func149,ntmps149;go_wp2
 go_loopw [2,3,11] (λu2 u3 i wr=>∃k:Nat,k<=ds.length/\i=Jn k/\yg w n ds u2 u3 wr k) (λ_ _ i _=>ds.length-(intOf i).toNat)
 case atStart=>exact⟨0,kc _,rfl,⟨[],[],bT.nil _ _,trivial,bT.nil _ _,trivial⟩,λg h=>(by cases h),fL _ _,λj _ h=>absurd h (by omega)⟩
 case round=>
  obtain⟨k,hk,rfl,⟨xs,ys,K,hx,L,hy⟩,I,hb,J⟩:=hrel;have hL:=hb.size;have hP:xs.length<=1000:=by have:=hx.length;simp at this;omega
  have hQ:ys.length<=1000:=by have:=hy.length;simp at this;omega
  have H2:=ag K;have HX:=ag hx;have H3:=ag L;have HY:=ag hy;have T:=ag I;have O:=ag hb;have U:=ag J;by_cases hlt:k<ds.length
  .obtain⟨g,hh,rfl,hg,t,x,h5,c0⟩:=hl.out k hlt;have d0:wr.cell? (dq g (hh+k))=some (.iface t x):=by rw[hb.cell (p:=(dq g (hh+k))) hg];exact c0
   have hp:=ag (IV.ak (TX hb) _ _ _ h5);clear h5 hb c0 K hx L hy I J;go_wp2_with fail;refine(gt n ds[k] (.iface t x) _ hp.out).mono ?_;rintro e w2 ⟨v2,vs2,rfl,b,m,H⟩;obtain⟨a2,cap2,rfl,hC,hD,s⟩:=ay b;have o:=m.length;have hH:=H.size;have G:=ag b;have W:=ag m;have d:=ag H;have S:=ag s;clear b m H s;unfold maxLen at hD;cases hil:aX ds[k] with
   |false=>
    have f:=ag (GU ds k hlt (by unfold nK;rw[hil];rfl));clear hil;go_wp2
    go_ret3
    exact⟨⟨_,_,[],[],jY (by rw[Q.out,f.out]),bT.nil _ _,bT.nil _ _,(λh=>by rw[Q.out,f.out] at h;cases h),λ_=>⟨rfl,rfl⟩⟩,O.out.trans (d.out.mono O.out.size)⟩
   |true=>
    by_cases h2:vs2.length=2
    .have h4:(aE ds[k]).length=2:=by rw[<-o];exact h2
     obtain⟨g2,rfl,_,hN,hc⟩:=S.out (by omega);obtain⟨y1,h9,M⟩:=W.out.at 0 (by omega);obtain⟨y2,ha,N⟩:=W.out.at 1 (by omega);obtain⟨t1,x1,rfl⟩:=IV.form _ _ _ M;obtain⟨t2,x2,rfl⟩:=IV.form _ _ _ N;have e1:=hc 0 _ h9;have hm:=ag (show nK ds[k]=true from by unfold nK;rw[hil,h4];rfl);have hv:=ag (show IV w2 n (.iface t1 x1) (jF ds[k]) from by unfold jF;rw[pk,fA (by omega)];exact M);have X:=ag (show IV w2 n (.iface t2 x2) (jG ds[k]) from by unfold jG;rw[pk,fA (by omega)];exact N);have hw:=ag ha;have hG:=G;clear h4 o h9 ha M N hil hc;rw[h2] at hC;rw[h2];go_wp2_with (at_builtin;refine nl _ rfl (.tmp 27) (.tmp 31) 76 rfl w.heap.size 81 i0 .nilIface 1 16 underlying76 q.out.1 q.out.2.1 q.out.2.2.1 q.out.2.2.2 rfl (by decide) _ xs.length xs rfl ((H2.out.below d.out).alloc _) (dq w2.heap.size 0) 1 1 [.iface t1 x1] rfl rfl (RW _ _ _) (by intro u hu;simp at hu;subst hu;rfl) (by decide) (by unfold maxLen;omega) (by omega) (by simp;omega) (w2.heap.size+1) (by simp) ?_);intro g4 c4 w4 h7 A y h6;have l:=bC A;have hO:=l.size;have c:=aq G.out l (λg hg h=>by have h1:=(ar H2.out h).2;have h3:=(ar G.out hg).1;omega);have E:=aq (H3.out.below d.out) l (λg h3 h2=>T.out g h2 h3);have e2:w4.cell? (dq g2 1)=some (.iface t2 x2):=by
      obtain⟨a',cap',hF,_,_,Z⟩:=ay c;obtain⟨g',hz,_,_,hA⟩:=Z (by omega);cases hF;cases hz;exact hA 1 _ hw.out
     have hs:=ag l;have hq:=ag h7;have V:=ag E;have hn:=ag (show u2.ownBlock=some g4\/wr.heap.size<=g4 from y.imp id (λh=>by omega));clear l h7 A y c E e1;go_wp2_with (at_builtin;refine nl _ rfl (.tmp 33) (.tmp 37) 76 rfl w.heap.size 81 i0 .nilIface 1 16 underlying76 q.out.1 q.out.2.1 q.out.2.2.1 q.out.2.2.2 rfl (by decide) _ ys.length ys rfl (V.out.alloc _) (dq w4.heap.size 0) 1 1 [.iface t2 x2] rfl rfl (RW _ _ _) (by intro u hu;simp at hu;subst hu;rfl) (by decide) (by unfold maxLen;omega) (by omega) (by simp;omega) (w4.heap.size+1) (by simp) ?_);intro g5 c5 w5 h8 C z hJ;have ht:=ag (bC C);have hr:=ag h8;have ho:=ag (show u3.ownBlock=some g5\/w4.heap.size<=g5 from z.imp id (λh=>by omega));clear h8 C z;go_wp2;go_roundw
     case rel=>exact⟨k+1,by omega,rfl,AA hlt H2.out HX.out H3.out HY.out T.out O.out U.out d.out hv.out X.out hm.out hs.out hq.out hn.out h6 ht.out hr.out ho.out⟩
     case measure=>simp[intOf];omega
    .have f:=ag (GU ds k hlt (by unfold nK;rw[<-o];simp[h2]));have b2:((vs2.length:Int) !=2)=true:=by simp;omega
     clear hil o;go_wp2
     go_ret3
     exact⟨⟨_,_,[],[],jY (by rw[Q.out,f.out]),bT.nil _ _,bT.nil _ _,(λh=>by rw[Q.out,f.out] at h;cases h),λ_=>⟨rfl,rfl⟩⟩,O.out.trans (d.out.mono O.out.size)⟩
  .have hE:k=ds.length:=by omega
   subst hE;clear hb K hx L hy I J;have R:=ag (K8 ds (λj hj=>U.out j hj hj));go_wp2
   go_ret3
   exact⟨⟨_,_,xs,ys,jY (by rw[Q.out,R.out]),H2.out,H3.out,λ_=>⟨by have:=HX.out;rwa [xp] at this,by have:=HY.out;rwa [xp] at this⟩,λh=>by rw[Q.out,R.out] at h;cases h⟩,O.out⟩
inductive E where
 |const (d:D)
 |nothing
 |var (s:au)
 |ite (a b c:E)
 |define (s:au) (a:E)
 |set (s:au) (a:E)
 |lambda (nm:au) (xs:List au) (a:E)
 |seq (es:List E)
 |apply (es:List E)
mutual
def cJ:E->Nat
 |.const _=>1
 |.nothing=>1
 |.var s=>s.length+1
 |.ite a b c=>cJ a+cJ b+cJ c+1
 |.define s a=>cJ a+s.length+1
 |.set s a=>cJ a+s.length+1
 |.lambda _ xs a=>cJ a+(xs.map (λs=>s.length+1)).sum+1
 |.seq es=>bG es+1
 |.apply es=>bG es+1
def bG:List E->Nat
 |[]=>0
 |e::r=>cJ e+bG r
end
def bF(f:D->Option E):List D->Option (List E)
 |[]=>some []
 |d::r=>match f d with
  |some e=>match bF f r with
   |some es=>some (e::es)
   |none=>none
  |none=>none
def JZ:List E->Option E
 |[]=>none
 |[e]=>some e
 |es=>some (.seq es)
def eW(f:D->Option E)(ds:List D):Option E:=(bF f ds).bind JZ
def eH(f:D->Option E)(nd ds:List D):Option E:=if bn [] nd then(eW f ds).map (.lambda [] (nd.map bS)) else none
def G3(s:au):E->E
 |.lambda _ xs a=>.define s (.lambda s xs a)
 |e=>.define s e
def Pw:List E->Option E
 |[a,b]=>some (.ite a b .nothing)
 |[a,b,c]=>some (.ite a b c)
 |_=>none
def zV(f:D->Option E)(mk:au->E->E):List D->Option E
 |[x,a]=>if cI x then(f a).map (mk (bS x)) else none
 |_=>none
def wI(f:D->Option E):List D->Option E
 |d::ds=>if aX d then eH f (aE d) ds else none
 |[]=>none
def yH(f:D->Option E)(a ds:List D):Option E:=match a with
 |x::xs=>if cI x then(eH f xs ds).map (G3 (bS x)) else none
 |[]=>none
def tu(f:D->Option E):List D->Option E
 |d::ds=>if aX d then yH f (aE d) ds else zV f G3 (d::ds)
 |[]=>none
def rV(f:D->Option E):List D->Option E
 |d::ds=>if aX d&&(aE d).all nK then(match eH f ((aE d).map jF) ds,bF f ((aE d).map jG) with
   |some p,some es=>some (.apply (p::es))
   |_,_=>none) else none
 |[]=>none
def Jv:List D->Option E
 |[d]=>some (.const d)
 |_=>none
def aN:Nat->D->Option E
 |0,_=>none
 |n+1,.agg l=>
  if aO l=[113,117,111,116,101] then Jv l.tail
  else if aO l=[105,102] then(bF (aN n) l.tail).bind Pw
  else if aO l=[115,101,116,33] then zV (aN n) .set l.tail
  else if aO l=[108,97,109,98,100,97] then wI (aN n) l.tail
  else if aO l=[98,101,103,105,110] then eW (aN n) l.tail
  else if aO l=[100,101,102,105,110,101] then tu (aN n) l.tail
  else if aO l=[108,101,116] then rV (aN n) l.tail
  else if l.isEmpty then none else(bF (aN n) l).map .apply
 |n+1,.slice l _=>
  if aO l=[113,117,111,116,101] then Jv l.tail
  else if aO l=[105,102] then(bF (aN n) l.tail).bind Pw
  else if aO l=[115,101,116,33] then zV (aN n) .set l.tail
  else if aO l=[108,97,109,98,100,97] then wI (aN n) l.tail
  else if aO l=[98,101,103,105,110] then eW (aN n) l.tail
  else if aO l=[100,101,102,105,110,101] then tu (aN n) l.tail
  else if aO l=[108,101,116] then rV (aN n) l.tail
  else if l.isEmpty then none else(bF (aN n) l).map .apply
 |_+1,.lit (.string s)=>if l7 s then none else some (.var s)
 |_+1,d=>some (.const d)
def mC(w:aa)(P:a9)(u:al)(es:a7):Prop:=w.ownsRow 0 83 1 u es.length es/\∀g,u.ownBlock=some g->P g
def yc(w:aa)(P:a9)(u:al)(a:List ao):Prop:=w.ownsRow 0 9 1 u a.length (a.map .string)/\∀g,u.ownBlock=some g->P g
def TI(a:List ao):List au:=a.map λz=>z.data.toList
mutual
inductive EV (w:aa) (P:a9):E->al->Prop
 |const (n:Nat) (t:bi) (x:al) (d:D):IV w n (.iface t x) d->EV w P (.const d) (.iface 133 (.agg #[.iface t x]))
 |nothing:EV w P .nothing (.iface 133 (.agg #[.iface 259 (.agg #[])]))
 |var (s:ao):EV w P (.var s.data.toList) (.iface 202 (.agg #[.string s]))
 |ite {g e2 e3:E} {a b c:al}:EV w P g a->EV w P e2 b->EV w P e3 c->EV w P (.ite g e2 e3) (.iface 261 (.agg #[a,b,c]))
 |define {e:E} {a:al} (s:ao):EV w P e a->EV w P (.define s.data.toList e) (.iface 279 (.agg #[.string s,a]))
 |set {e:E} {a:al} (s:ao):EV w P e a->EV w P (.set s.data.toList e) (.iface 267 (.agg #[.string s,a]))
 |lambda {e:E} {a u:al} {h:List ao} (nm:ao):yc w P u h->EV w P e a->EV w P (.lambda nm.data.toList (TI h) e) (.iface 277 (.agg #[.string nm,u,a]))
 |seq {f:List E} {u:al} {es:a7}:mC w P u es->2<=es.length->ii w P f es->EV w P (.seq f) (.iface 269 (.agg #[u]))
 |apply {f:List E} {u:al} {es:a7}:mC w P u es->1<=es.length->ii w P f es->EV w P (.apply f) (.iface 273 (.agg #[u]))
inductive ii (w:aa) (P:a9):List E->a7->Prop
 |nil:ii w P [] []
 |cons {k:E} {f:List E} {e:al} {es:a7}:EV w P k e->ii w P f es->ii w P (k::f) (e::es)
end
theorem mC.imp{w:aa}(m:∀(g:Nat) (o:Obj),P g->w.heap[g]? =some o->w'.heap[g]? =some o/\P' g)(h:mC w P u es):mC w' P' u es:=by
 obtain⟨⟨h1,h2⟩,h3⟩:=h;rcases h2 with⟨b,j⟩|⟨g,f,i,b,d,l,r⟩
 .refine⟨⟨h1,RP ⟨b,j⟩⟩,λg d=> ?_⟩;rw[b] at d;cases d
 .have hp:=m g _ (h3 g (by rw[b];rfl)) l;refine⟨⟨h1,RA ⟨g,f,i,b,d,hp.1,r⟩⟩,λp c=> ?_⟩;rw[b] at c;cases c;exact hp.2
theorem yc.imp{w:aa}(m:∀(g:Nat) (o:Obj),P g->w.heap[g]? =some o->w'.heap[g]? =some o/\P' g)(h:yc w P u zs):yc w' P' u zs:=by
 obtain⟨⟨h1,h2⟩,h3⟩:=h;rcases h2 with⟨b,j⟩|⟨g,f,i,b,d,l,r⟩
 .refine⟨⟨h1,RP ⟨b,j⟩⟩,λg d=> ?_⟩;rw[b] at d;cases d
 .have hp:=m g _ (h3 g (by rw[b];rfl)) l;refine⟨⟨h1,RA ⟨g,f,i,b,d,hp.1,r⟩⟩,λp c=> ?_⟩;rw[b] at c;cases c;exact hp.2
mutual
theorem EV.imp {w w':aa} {P P':a9} (kp:aC 205 w w') (e:∀(g:Nat) (o:Obj),P g->w.heap[g]? =some o->w'.heap[g]? =some o/\P' g):∀{n:E} {v:al},EV w P n v->EV w' P' n v
 |_,_,.const n t x d h=>.const n t x d (IV.ak kp _ _ _ h)
 |_,_,.nothing=>.nothing
 |_,_,.var s=>.var s
 |_,_,.ite a b c=>.ite (EV.imp kp e a) (EV.imp kp e b) (EV.imp kp e c)
 |_,_,.define s a=>.define s (EV.imp kp e a)
 |_,_,.set s a=>.set s (EV.imp kp e a)
 |_,_,.lambda nm r a=>.lambda nm (r.imp e) (EV.imp kp e a)
 |_,_,.seq r h a=>.seq (r.imp e) h (ii.imp kp e a)
 |_,_,.apply r h a=>.apply (r.imp e) h (ii.imp kp e a)
theorem ii.imp {w w':aa} {P P':a9} (kp:aC 205 w w') (e:∀(g:Nat) (o:Obj),P g->w.heap[g]? =some o->w'.heap[g]? =some o/\P' g):∀{n:List E} {es:a7},ii w P n es->ii w' P' n es
 |_,_,.nil=>.nil
 |_,_,.cons a b=>.cons (EV.imp kp e a) (ii.imp kp e b)
end
theorem ii.append{w:aa}{n m:List E}(h:ii w P n es)(k:ii w P m fs):ii w P (n++m) (es++fs):=by
 induction es generalizing n with
 |nil=>cases h;exact k
 |cons e r c=>
  cases h with
  |cons a b=>exact .cons a (c b)
theorem ii.length{w:aa}{n:List E}(h:ii w P n es):n.length=es.length:=by
 induction es generalizing n with
 |nil=>cases h;rfl
 |cons e r c=>
  cases h with
  |cons a b=>simp[c b]
theorem EV.form{w:aa}{n:E}{v:al}(h:EV w P n v):∃t x,v=.iface t x:=by cases h<;>exact⟨_,_,rfl⟩
theorem EV.kept{w:aa}{n:E}{v:al}(h:EV w P n v)(hb:Below w.heap.size w w')(hp:∀g,P g->g<w.heap.size->P' g):EV w' P' n v:=
 h.imp (TX hb) λg o b ho=>⟨by rw[hb.block g (ai ho)];exact ho,hp g b (ai ho)⟩
theorem rj(f:D->Option E):∀(ds:List D) (d:D) (b:List E) (k:E),bF f ds=some b->f d=some k->bF f (ds++[d])=some (b++[k])
 |[],d,b,k,h,g=>by cases h;simp[bF,g]
 |a::r,d,b,k,h,g=>by
  simp only[bF] at h;split at h
  .rename_i e i
   split at h
   .rename_i es c
    cases h;simp only[s6,bF,i,rj f r d es k c g]
   .cases h
  .cases h
theorem BK(f:D->Option E)(ds:List D)(k:Nat)(d:k<ds.length)(b:List E)(e:E)(h:bF f (ds.take k)=some b)(c:f ds[k]=some e):bF f (ds.take (k+1))=some (b++[e]):=by
 rw[mn d];exact rj f _ _ _ _ h c
end Go.Proofs.YtlobegpjenabaaaGreatDoor
