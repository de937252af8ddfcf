import Derived.Test.YtlobegpjenabaaaGreatDoorT02
import Derived.Lib.Strings
import Derived.Deep.CutBlock
import Derived.Shelf.Small.Strs
import Derived.Shelf.LaysM
import Derived.Shelf.Strconv.Clone
import Derived.Shelf.LaysC
import Derived.Shelf.Strconv.ParseIntPublic10
import Derived.Shelf.Strconv.ErrVarParseInt
import Derived.Shelf.Strings.Search3
import Derived.Shelf.Strconv.AppendIntPublic10
import Derived.Shelf.Strings.Prefix
import Derived.Shelf.Slices.Turned
import Derived.Ground.Names2Prog
import Derived.Shelf.Slices.Clone
namespace Go.Proofs.YtlobegpjenabaaaGreatDoor
open Go.RowKit Tryz
set_option linter.unusedSimpArgs false
set_option linter.unusedVariables false
set_option linter.defProp false
set_option maxRecDepth 100000
set_option maxHeartbeats 4000000
def s6:=@List.cons_append
def s8:=@List.map_append
def v6:=@List.map_cons
def xo:=@World.cell?_of_block
def C4:=@Nat.zero_add
def RB:=@Bool.and_false
def RH:=@List.append_assoc
def RU:=@Nat.add_assoc
def R5:=@List.contains_cons
def Sj:=@List.getElem_mem
def SF:=@Lib.extract_data
def SS:=@List.map_nil
def SZ:=@Nat.le_of_lt_succ
def Tu:=@UInt8.toNat.inj
variable {k1 m1 k2 m2 k0 m0 e a:Int} {s1 s2 s s0:ao} {p1 p2 p0:a8} {n i k B:Nat} {wr w2 w3 w':aa} {R:xX (List D)} {v':al} {acc ds:List D} {css:List bc} {g:D} {S:a9}
attribute [local go_sem↓] Go.wp_at_zero Go.wp_at_succ
theorem Na{w:aa}{b:Nat}(h:w.heap[b]? =some (.cells #[Jn k1,Jn m1,.string s1,.pointer p1,.pointer none,Jn k2,Jn m2,.string s2,.pointer p2,.pointer none] 96)):
  dl 0 w (.slice (eb b) 2 2) [az k1 m1 s1 p1,az k2 m2 s2 p2]:=
 ⟨rfl,RA ⟨b,2,_,rfl,kc _,h,ew _,by unfold maxLen;omega,rfl,rfl⟩⟩
theorem yA(s:ao)(hs:s.size<=1000)(n C op i:Nat)(w:aa)(HD:mz s n)(ho:op<20)(hi:i<s.size)(K:w.heap[C]? =some (cur s i 0 0))(hc:s[i].toNat=39)(hn:2 *(s.size-i)<n+1):
  cl 64 #[Pt C,Jn op] w (dH s C w (21-op) (rd (n+1) s.data.toList op i none)):=by
 have W:=ai K;have T:Hid ((s.data.toList.getD i 0).toNat=39):=by show _=_;rw[gZ s i hi];exact hc
 have h9:=ag HD;clear HD;have c0:=ae K 0;have c1:=ae K 1;have f1:=ah K 1;simp at c0 c1;have b41:((s[i].toNat:Int)==41)=false:=by rw[j2];omega
 have b40:((s[i].toNat:Int)==40)=false:=by rw[j2];omega
 have b39:((s[i].toNat:Int)==39)=true:=by rw[xb];omega
 have HC:=ag K;clear K hc;have hk:(op:Int)<20:=by omega
 go_enter func64,ntmps64;go_wp2_with fail;have m:((w.setCell (dq C 1) (Jn ((i:Int)+1))).alloc Z5).heap[C]? =some (cur s ((i+1:Nat):Int) 0 0):=aw (TH HC.out);have Z:=((TU (λk=>k=C) w).setCell (dq C 1) (Jn ((i:Int)+1)) (λ_=>rfl)).alloc Z5;have X:((w.setCell (dq C 1) (Jn ((i:Int)+1))).alloc Z5).heap[w.heap.size]? =some Z5:=by
  have:=fK (w.setCell (dq C 1) (Jn ((i:Int)+1))) Z5;simpa[World.setCell] using this
 generalize hf:(w.setCell (dq C 1) (Jn ((i:Int)+1))).alloc Z5=W1 at *
 clear hf;have c0:=ae m 0;have c1:=ae m 1;have f1:=ah m 1;simp at c0 c1;have h7:=ag m;have hd:=ag Z;have ha:=ag X;clear m Z X
 go_cut [] (λwc=>wc.heap[C]? =some (cur s (aJ s.data.toList (i+1)) 0 0)/\aB (λk=>k=C) W1 wc)
 case first=>
  go_region_with (go_at_call 63;refine(sJ s (i+1) _ ?_ ?_).mono ?_;omega;omega;rintro e w' ⟨rfl,rfl⟩)
  all_goals
   go_wp2
   go_meet
   case rel=>exact⟨TH h7.out,((TU (λk=>k=C) W1).setCell (dq C 1) _ (λ_=>rfl)).drew⟩
 case rest=>
  obtain⟨o,I⟩:=hcut;have h6:=im s.data.toList (i+1) (by simp;omega);have hg:=fe s.data.toList (i+1);obtain⟨j,hj⟩:∃j,aJ s.data.toList (i+1)=j:=⟨_,rfl⟩;rw[hj] at o h6 hg;have J:=ag hj;clear hj;simp at h6;have h5:=hd.out.trans I (λ_ _ h=>h);have Y:=I.at ha.out (by omega);have c0:=ae o 0;have c1:=ae o 1;simp at c0 c1;have L:=ag o;have H:=ag h5;have P:=ag Y;clear o I h5 Y;by_cases v:j=s.size
  .have bje:((j:Int)==(s.size:Int))=true:=by rw[xb];omega
   have hb:=ag (JC n s.data.toList op i T.out (by omega) (by rw[J.out,v];simp));have Hje:=ag v;clear v;go_wp2_with fail
   go_quiet (fail)
   go_wp2_with fail;refine(gD s j 0 0 2 j C _ (by exact L.out)).mono ?_;rintro e w2 ⟨rfl,q,l⟩;have c:=l.at P.out (by omega);have u:=(H.out.drewN _).trans l (λ_ _ h=>h);have f0:=ah c 0;have f1:=ah c 1;have f2:=ah c 2;have f3:=ah c 3;have f4:=ah c 4;have r0:=ae c 0;have r1:=ae c 1;have r2:=ae c 2;have r3:=ae c 3;have r4:=ae c 4;simp at r0 r1 r2 r3 r4;have x:=ag c;have F:=ag q;have G:=ag u;clear c q l u;unfold az;go_wp2;refine pX results64 rfl (bA _ _ _ _ _ x.out) rfl ?_;exact io W (by omega) G.out x.out F.out (by rw[hb.out,Hje.out];simp)
  .have bje:((j:Int)==(s.size:Int))=false:=by rw[j2];omega
   have Hne:Hid (¬aJ s.data.toList (i+1)=s.data.toList.length):=by show ¬_;rw[J.out];simpa using v
   have hh:j<s.size:=by omega
   clear v;go_wp2_with fail
   go_quiet (fail)
   go_wp2_with fail;have e1:((op:Int)+1)=((op+1:Nat):Int):=by omega
   rw[e1];refine(h9.out C (op+1) j _ (by omega) hh (by exact L.out) (by omega)).mono ?_;rintro e w2 ⟨cs,g,rfl,z,l,i2,e2,a2,q,A,D⟩;have r:=z.lo (lo':=w.heap.size) (H.out.drewN _).size;clear z;obtain⟨k0,m0,s0,p0,rfl⟩:=T7 _ _ _ r.1;have c:=l.at P.out (by omega);have u:=(H.out.drewN _).trans l (λ_ _ h=>h);have x:=ag c;have F:=ag q;have G:=ag u;have y:=ag r;have M:=ag (ei A D);clear c q l u r A D e1;unfold az;go_wp2_with fail;refine(rW (20-op) [az 3 0 ⟨#[113,117,111,116,101]⟩ none,az k0 m0 s0 p0] [sym sr,g] _ _ 0 (by exact Na (bR _ _ _)) ?_ (by simp)).mono ?_
   .refine⟨rfl,?_,rfl,?_,trivial⟩
    .rw[show 20-op=(19-op)+1 from by omega];rfl
    .have:=y.out.1;rw[show 21-(op+1)=20-op from by omega] at this;exact RV.ak (T1 (((TU (λ_=>False) w2).alloc _).alloc _) (λ_ _ h=>h.elim)) _ _ _ this
   rintro e w3 ⟨cs3,_,rfl,t,U,E⟩;have Q:=ag (E w.heap.size (by exact⟨w.heap.size,.atom _ _ _ (ew _) (λb e=>by cases e),(eN.one y.out.2).ak (qg.ak (T1 (((TU (λ_=>False) w2).alloc _).alloc _) (λ_ _ h=>h.elim))) (((TU (λ_=>False) w2).alloc _).alloc _).size⟩));clear E;obtain⟨k3,m3,s3,p3,rfl⟩:=T7 _ _ _ t;have l:=(((TU (λ_=>False) w2).alloc _).alloc _).trans (TW (λ_=>False) U) (λ_ _ h=>h);have f:=l.at x.out (λh=>h);have V:=l.at F.out (λh=>h);have h0:=G.out.trans l (λ_ _ h=>h.elim);have f0:=ah f 0;have f1:=ah f 1;have f2:=ah f 2;have f3:=ah f 3;have f4:=ah f 4;have r0:=ae f 0;have r1:=ae f 1;have r2:=ae f 2;have r3:=ae f 3;have r4:=ae f 4;simp at r0 r1 r2 r3 r4;have N:=ag f;have h8:=ag V;have he:=ag h0;have O:=ag t;clear f V l h0 t U;unfold az;go_wp2;refine pX results64 rfl (bA _ _ _ _ _ N.out) rfl ?_;refine jI (g:=.agg [sym sr,g]) W he.out N.out h8.out ⟨by have:=O.out;rw[show 20-op+1=21-op from by omega] at this;exact this,Q.out⟩ ?_ ?_
   .intro er p h;cases hr:rd n s.data.toList (op+1) j none with
    |inl e=>
     rw[Ai n _ op i T.out (by omega) Hne.out e (by rw[J.out];exact hr)] at h;cases h;exact M.out.1 _ _ hr
    |inr dk=>
     obtain⟨d,k⟩:=dk;rw[D4 n _ op i T.out (by omega) Hne.out d k (by rw[J.out];exact hr)] at h;cases h
   .intro d k h;cases hr:rd n s.data.toList (op+1) j none with
    |inl e=>
     rw[Ai n _ op i T.out (by omega) Hne.out e (by rw[J.out];exact hr)] at h;cases h
    |inr dk=>
     obtain⟨d',k'⟩:=dk;rw[D4 n _ op i T.out (by omega) Hne.out d' k' (by rw[J.out];exact hr)] at h;cases h;obtain⟨h1,h2,h3,h4⟩:=M.out.2 _ _ hr;exact⟨h1,h2,h3,by rw[h4];rfl⟩
theorem AM(s:ao)(k:Nat)(h:k<s.size)(c:bZ s[k].toNat=0):bH s.data.toList k=k:=by
 simp only[bH];rw[dt s k h];simp only[oS];rw[fN (show cY s[k]=0 from c)];rfl
theorem Kr(s:ao)(k:Nat)(h:k<s.size)(c:¬bZ s[k].toNat=0):bH s.data.toList (k+1)=bH s.data.toList k:=by
 simp only[bH];rw[dt s k h];simp only[oS];rw[fb (show ¬cY s[k]=0 from c)];omega
theorem AK(s:ao)(k:Nat)(h:s.size<=k):bH s.data.toList k=k:=by
 simp only[bH];rw[mO s k h];rfl
theorem MZ(n:Nat)(l:au)(op i:Nat)(h1:¬(l.getD i 0).toNat=41)(h2:¬(l.getD i 0).toNat=40)(h3:¬(l.getD i 0).toNat=39)(h:bH l i=i):rd (n+1) l op i none=.inl (2,i):=by
 rw[CL n l op i h1 h2 h3,fN h]
theorem M0(n:Nat)(l:au)(op i:Nat)(h1:¬(l.getD i 0).toNat=41)(h2:¬(l.getD i 0).toNat=40)(h3:¬(l.getD i 0).toNat=39)(h:¬bH l i=i)(b:ig ((l.drop i).take (bH l i-i))=none):rd (n+1) l op i none=.inl (2,i):=by
 rw[CL n l op i h1 h2 h3,fb h,b]
theorem M1(n:Nat)(l:au)(op i:Nat)(h1:¬(l.getD i 0).toNat=41)(h2:¬(l.getD i 0).toNat=40)(h3:¬(l.getD i 0).toNat=39)(h:¬bH l i=i)(d:D)(b:ig ((l.drop i).take (bH l i-i))=some d):rd (n+1) l op i none=.inr (d,bH l i):=by
 rw[CL n l op i h1 h2 h3,fb h,b]
theorem G8{d:D}{b:Nat}:¬yn d=some (az 5 0 aZ (eb b)):=by
 unfold yn;split<;>simp[az]
theorem RV.atom(w:aa)(n:Nat)(h:0<n)(cs:bc):∀(d:D),yn d=some cs->RV w n cs d:=by
 obtain⟨m,rfl⟩:∃m,n=m+1:=⟨n-1,by omega⟩;intro d b;cases d with
 |agg l=>cases b
 |_=>exact b
theorem EK(s:ao)(hs:s.size<=1000)(n C op i:Nat)(w:aa)(ho:op<=20)(hi:i<s.size)(K:w.heap[C]? =some (cur s i 0 0))(T:¬s[i].toNat=41)(Q:¬s[i].toNat=40)(P:¬s[i].toNat=39):
  cl 64 #[Pt C,Jn op] w (dH s C w (21-op) (rd (n+1) s.data.toList op i none)):=by
 have I:=ai K;have Z:=gZ s i hi;have g41:¬(s.data.toList.getD i 0).toNat=41:=by rw[Z];exact T
 have g40:¬(s.data.toList.getD i 0).toNat=40:=by rw[Z];exact Q
 have g39:¬(s.data.toList.getD i 0).toNat=39:=by rw[Z];exact P
 have T0:=ag (MZ n s.data.toList op i g41 g40 g39);have TN:=ag (M0 n s.data.toList op i g41 g40 g39);have TS:=ag (M1 n s.data.toList op i g41 g40 g39);clear Z g41 g40 g39;have c0:=ae K 0;have c1:=ae K 1;have f1:=ah K 1;simp at c0 c1;have b41:((s[i].toNat:Int)==41)=false:=by rw[j2];omega
 have b40:((s[i].toNat:Int)==40)=false:=by rw[j2];omega
 have b39:((s[i].toNat:Int)==39)=false:=by rw[j2];omega
 have HC:=ag K;clear K T Q P;go_enter func64,ntmps64
 go_upto_block 1 with fail
 go_cut [8] (λv wc=>v=Jn (bH s.data.toList i)/\wc=w.alloc Z5)
 case first=>
  go_wp2_with fail
  go_loop [8] (λv=>∃k:Nat,i<=k/\k<=s.size/\v=Jn k/\bH s.data.toList k=bH s.data.toList i) (λv=>s.size-(intOf v).toNat)
  case atStart=>exact⟨i,ew _,by omega,rfl,rfl⟩
  case round=>
   obtain⟨k,h6,hk,rfl,hT⟩:=hrel;have HT:=ag hT;clear hT;by_cases hlt:k<s.size
   .by_cases L:bZ s[k].toNat=0
    .have O:=ag (AM s k hlt L);have bz:(bZ s[k].toNat==0)=true:=by rw[xb];exact L
     clear L;go_wp2_with (go_at_call 107;refine(gO _ _).mono ?_;rintro e w' ⟨rfl,rfl⟩)
     go_meet
     case rel=>exact⟨by rw[<-HT.out,O.out],rfl⟩
    .have O:=ag (Kr s k hlt L);have bz:(bZ s[k].toNat==0)=false:=by rw[j2];exact L
     clear L;go_wp2_with (go_at_call 107;refine(gO _ _).mono ?_;rintro e w' ⟨rfl,rfl⟩)
     go_round
     case rel=>exact⟨k+1,by omega,by omega,by go_num,by rw[O.out];exact HT.out⟩
     case measure=>simp[intOf];omega
   .have O:=ag (AK s k (by omega));go_wp2
    go_meet
    case rel=>exact⟨by rw[<-HT.out,O.out],rfl⟩
 case rest=>
  obtain⟨rfl,rfl⟩:=hcut;have h7:i<=bH s.data.toList i:=by unfold bH;omega
  have h2:=vo s.data.toList i (by simp;omega);simp only[dP] at h2
  generalize bH s.data.toList i=k at *
  by_cases z:k=i
  .subst z;have l:=ag (T0.out rfl);go_wp2_with fail;refine(gD s k 0 0 2 k C _ (by exact aw HC.out)).mono ?_;rintro e w2 ⟨rfl,j,m⟩;have c:=m.at (fK _ _) (by omega);have r:=((TU (λk=>k=C) w).alloc _).trans m (λ_ _ h=>h);have f0:=ah c 0;have f1:=ah c 1;have f2:=ah c 2;have f3:=ah c 3;have f4:=ah c 4;have r0:=ae c 0;have r1:=ae c 1;have r2:=ae c 2;have r3:=ae c 3;have Y:=ae c 4;simp at r0 r1 r2 r3 Y;have q:=ag c;have u:=ag j;have H:=ag r;clear c j m r;unfold az;go_wp2;refine pX results64 rfl (bA _ _ _ _ _ q.out) rfl ?_;exact io I (by omega) H.out q.out u.out l.out
  .have bki:((k:Int)==(i:Int))=false:=by rw[j2];omega
   have h8:(i:Int)<=(k:Int):=by omega
   have h9:(k:Int)<=(s.size:Int):=by omega
   have F:=ag (TN.out z);have G:=ag (TS.out z);have h3:(s.extract i k).size=k-i:=by simp;omega
   have X:(s.extract i k).data.toList=(s.data.toList.drop i).take (k-i):=SF s i k;have E:=ag (Ge (s.extract i k) · (by omega) (by omega));have x:=ag X;clear z T0 TN TS h3 X;go_wp2_with fail;refine(E.out _).mono ?_;rintro e w2 ⟨⟨cs,⟨k0,m0,s0,p0,rfl⟩,rfl,t⟩,y⟩;have m:=((TU (λk=>k=C) w).alloc _).trans (TW (λk=>k=C) y) (λ_ _ h=>h);have j:=(TW (λ_=>False) y).at (aw HC.out) (λh=>h);have c:=(TW (λ_=>False) y).at (fK _ _) (λh=>h);have N:=ag m;have q:=ag c;have u:=ag j;have D:=ag t;clear m y t;cases ht:ig (s.extract i k).data.toList with
   |none=>
    have l:=ag (F.out (by rw[<-x.out];exact ht));simp only[ht,Option.isSome_none];clear j c E F G x D;unfold az;go_wp2_with fail;refine(gD s i 0 0 2 i C _ (by exact aw u.out)).mono ?_;rintro e w3 ⟨rfl,U,J⟩;have f:=J.at (aw q.out) (by omega);have r:=(N.out.alloc _).trans J (λ_ _ h=>h);have f0:=ah f 0;have f1:=ah f 1;have f2:=ah f 2;have f3:=ah f 3;have f4:=ah f 4;have r0:=ae f 0;have r1:=ae f 1;have r2:=ae f 2;have r3:=ae f 3;have Y:=ae f 4;simp at r0 r1 r2 r3 Y;have M:=ag f;have h0:=ag U;have H:=ag r;clear f U J r;unfold az;go_wp2;refine pX results64 rfl (bA _ _ _ _ _ M.out) rfl ?_;exact io I (by omega) H.out M.out h0.out l.out
   |some d=>
    have l:=ag (G.out d (by rw[<-x.out];exact ht));have t:=D.out d ht;have A:=ag t;simp only[ht,Option.isSome_some];have h4:w.heap.size<w2.heap.size:=ai c;have h5:C<w2.heap.size:=ai j;have ha:¬C=w.heap.size:=by omega
    have c1:=ae j 1;have fC:=ah j 1;simp at c1;have f0:=ah c 0;have f1:=ah c 1;have f2:=ah c 2;have f3:=ah c 3;have f4:=ah c 4;have r0:=ae c 0;have r1:=ae c 1;have r2:=ae c 2;have r3:=ae c 3;have Y:=ae c 4;simp at r0 r1 r2 r3 Y;clear j c E F G x D t ht;unfold az;go_wp2;have W:=N.out.setCell (dq C 1) (Jn k) (λ_=>rfl);have h1:=TH (o:=1) (v:=Jn k) u.out;have V:=aB.at ((TU (λk=>k=C) w2).setCell (dq C 1) (Jn k) (λ_=>rfl)) q.out (by omega);refine pX results64 rfl (aw (bA _ _ _ _ _ V)) rfl ?_;refine dH.grow (jI (g:=d) (i':=k) (e':=0) (a':=0) I W V h1 ?_ ?_ ?_) (aB.GV _ _)
    .exact⟨RV.atom _ _ (by omega) _ _ A.out,.atom _ _ _ W.size (λb e=>by have h:=A.out;rw[e] at h;exact G8 h)⟩
    .intro er p h;rw[l.out] at h;cases h
    .intro d' k' h;rw[l.out] at h;cases h;exact⟨rfl,rfl,rfl,rfl⟩
theorem Hv(s:ao)(h:s.size<=1000)(n:Nat)(m:mz s n)(o:vH s n):mz s (n+1):=by
 intro C op i w ho hi f l;by_cases j:s[i].toNat=41
 .exact ts s h n C op i w ho hi f j (RP rfl)
 by_cases d:s[i].toNat=40
 .by_cases b:20<=op
  .exact tr s h n C op i w ho hi f d (RA b)
  .exact BC s h n C op i w o (by omega) hi f d l
 by_cases c:s[i].toNat=39
 .by_cases b:20<=op
  .exact tq s h n C op i w ho hi f c (RA b)
  .exact yA s h n C op i w m (by omega) hi f c l
 exact EK s h n C op i w ho hi f j d c
theorem qZ(s:ao)(d:s.size<=1000):∀n m,m<=n->mz s m/\vH s m
 |0,m,h=>by
  obtain rfl:m=0:=by omega
  exact⟨λC op i w _ hi _ c=>absurd c (by omega),λC op i w _ _ _ _ c=>absurd c (by omega)⟩
 |n+1,m,h=>by
  have b:=qZ s d n;rcases P5 h with h|rfl
  .exact b m (by omega)
  .exact⟨Hv s d n (b n (ew _)).1 (b n (ew _)).2,Mq s d (n+1) (λj f=>(b j (by omega)).1)⟩
attribute [local go_sem↓] Go.wp_at_zero Go.wp_at_succ
def GN(w:aa)(r:xX (List D))(e:bo)(w':aa):Prop:=
 Below w.heap.size w w'/\(∀er p,r=.inl (er,p)->e=.returned (.tuple #[.slice none 0 0,Jn er,Jn (p:Nat)])/\¬er=0)/\
  (∀f,r=.inr f->∃v a,e=.returned (.tuple #[v,Jn 0,Jn 0])/\dl w.heap.size w' v a/\dT w' 21 a f/\f.length<=1000/\ko w' w.heap.size a w'.heap.size)
def Do(s:ao)(w:aa)(R:xX (List D))(v:al)(wr:aa)(n i:Nat)(a:List D)(b:List bc):Prop:=
 i<=s.size/\s.size-i<n/\dz n s.data.toList i a=R/\a.length<=i/\wr.heap[w.heap.size]? =some (cur s i 0 0)/\dl (w.heap.size+1) wr v b/\dT wr 21 b a/\Below w.heap.size w wr/\w.heap.size+1<=wr.heap.size/\ko wr w.heap.size b wr.heap.size
theorem FH(n:Nat)(l:au)(i:Nat)(acc:List D)(h:aJ l i=l.length):dz (n+1) l i acc=.inr acc:=by simp only[dz];rw[fN h]
theorem FI(n:Nat)(l:au)(i:Nat)(acc:List D)(h:¬aJ l i=l.length)(e:Int×Nat)(h3:rd (2 *l.length+2) l 0 (aJ l i) none=.inl e):dz (n+1) l i acc=.inl e:=by simp only[dz];rw[fb h,h3]
theorem JG(n:Nat)(l:au)(i:Nat)(acc:List D)(h:¬aJ l i=l.length)(d:D)(k:Nat)(h3:rd (2 *l.length+2) l 0 (aJ l i) none=.inr (d,k)):dz (n+1) l i acc=dz n l k (acc++[d]):=by simp only[dz];rw[fb h,h3]
theorem CM{w:aa}{v:al}(h2:k<=s.size)(h3:s.size-k<n)(u:dz n s.data.toList k (acc++[g])=R)(x:acc.length+1<=k)(hb:Below w.heap.size w wr)(p:wr.heap[w.heap.size]? =some (cur s i e a))(m:dl (w.heap.size+1) wr v css)(q:dT wr 21 css acc)(c:aB (λj=>j=w.heap.size) wr w2)(o:w2.heap[w.heap.size]? =some (cur s k 0 0))(t:RG w2 wr.heap.size 21 (az k0 m0 s0 p0) g)(r:ko wr w.heap.size css wr.heap.size)(y:w.heap.size+1<=wr.heap.size)(d:aB (λj=>v.ownBlock=some j) w2 w3)(ho:w3.ownsRow (w.heap.size+1) 96 5 v' (css.length+1) (flat css++[Jn k0,Jn m0,.string s0,.pointer p0,.pointer none])):
  Do s w R v' w3 n k (acc++[g]) (css++[az k0 m0 s0 p0]):=by
 have b:dl (w.heap.size+1) w2 v css:=jv m c (by omega);have f:aC 162 w2 w3:=T1 d (cr b (by decide));have l:=(ji p c).trans f;refine⟨h2,h3,u,by simpa using x,d.at o (λh=>by have:=(ar b h).1;omega),?_,?_,?_,?_,(r.ak (qg.ak l) (ew _)).join (eN.one (t.ak f d.size).2)⟩
 .unfold dl;rw[lp,ga];exact ho
 .exact dT.append (dT.ak l _ _ _ q) ⟨rfl,RV.ak f _ _ _ t.1,trivial⟩
 .exact(hb.trans (c.below hb.size (by intro k z;omega))).trans (d.below (ku hb.size c.size) (λj h=>by have:=(ar b h).1;omega))
 .have:=c.size;have:=d.size;omega
theorem JH(s:ao)(hs:s.size<=1000)(w:aa):cl 44 #[.string s] w (GN w (dz (s.data.toList.length+1) s.data.toList 0 [])):=by
 have Q:=ag (qZ s hs (2 *s.size+2) (2 *s.size+2) (ew _)).1;obtain⟨i0,H,h3,h4,h5⟩:=sv kh;have HI:=ag (ei H (ei h3 (ei h4 h5)));clear H h3 h4 h5;go_enter func44,ntmps44;go_wp2
 go_loopw [6] (λv wr=>∃n i acc css,Do s w (dz (s.data.toList.length+1) s.data.toList 0 []) v wr n i acc css) (λ_ wr=>s.size-LE w.heap.size wr)
 case atStart=>
  refine⟨_,0,[],[],kc _,by simp,rfl,ew _,fK _ _,dl.nil _ _,trivial,aR _ _,by simp,by show _<=_;simp⟩
 case round=>
  obtain⟨n,i,acc,css,hi,hp,b,ho,x,I,J,hb,hf,h1⟩:=hrel;have V:=ag h1;clear h1;obtain⟨n,rfl⟩:∃m,n=m+1:=⟨n-1,by omega⟩;have c0:=ae x 0;have c1:=ae x 1;have f1:=ah x 1;simp at c0 c1;have o:=ag x;have r:=ag I;have K:=ag J;have O:=ag hb;have q:=ag b;clear x I J hb b;go_wp2_with fail;refine(sJ s i _ hi hs).mono ?_;rintro e w' ⟨rfl,rfl⟩;have h0:=im s.data.toList i (by simpa using hi);have he:=fe s.data.toList i;obtain⟨j,hj⟩:∃j,aJ s.data.toList i=j:=⟨_,rfl⟩;rw[hj] at h0 he;rw[hj];have Hj:=ag hj;clear hj;simp at h0;by_cases F:j=s.size
  .have bje:((j:Int)==(s.size:Int))=true:=by rw[xb];omega
   have T:=ag (FH n s.data.toList i acc (by rw[Hj.out,F];simp));clear F;go_wp2
   go_ret3
   have hu:=(TU (λk=>k=w.heap.size) w').setCell (dq w.heap.size 1) (Jn j) (λ_=>rfl);refine⟨O.out.trans (hu.below O.out.size (by intro k hk;omega)),?_,?_⟩
   .intro er p h;rw[<-q.out,T.out] at h;cases h
   .intro f h;rw[<-q.out,T.out] at h;cases h;exact⟨_,css,rfl,ba (jv r.out hu (by omega)) (by omega),dT.ak (ji o.out hu) _ _ _ K.out,by omega,V.out.ak (qg.ak (ji o.out hu)) hu.size⟩
  .have bje:((j:Int)==(s.size:Int))=false:=by rw[j2];omega
   have N:j<s.size:=by omega
   have Hne:Hid (¬aJ s.data.toList i=s.data.toList.length):=by show ¬_;rw[Hj.out];simpa using F
   clear F;go_wp2_with fail;have h2:=(TU (λk=>k=w.heap.size) w').setCell (dq w.heap.size 1) (Jn j) (λ_=>rfl);have Y:(w'.setCell (dq w.heap.size 1) (Jn j)).heap[w.heap.size]? =some (cur s j 0 0):=TH o.out;have W:=ag h2;have h6:=ag Y;clear h2 Y;refine(Q.out w.heap.size 0 j _ (by omega) N (by exact h6.out) (by omega)).mono ?_;rintro e w2 ⟨cs,g,rfl,G,M,i2,e2,a2,u,z,A⟩;have c:=G.lo (lo':=w'.heap.size) W.out.size;clear G;obtain⟨k0,m0,s0,p0,rfl⟩:=T7 _ _ _ c.1;have l:=W.out.trans M (λ_ _ h=>h);have hm:=l.size;have e2c:=ae u 2;have a2c:=ae u 3;simp at e2c a2c;have hh:w.heap.size<w2.heap.size:=by omega
   cases b:rd (2 *s.size+2) s.data.toList 0 j none with
   |inl ep=>
    obtain⟨er,pp⟩:=ep;obtain⟨rfl,rfl⟩:=z er pp b;have C:=oM s.data.toList _ 0 j none e2 pp (by simp;omega) (λ_=>by simpa using N) (by simp;omega) b;have bne0:(e2 !=0)=true:=by rw[SC];exact C
    have T:=ag (FI n s.data.toList i acc Hne.out (e2,pp) (by rw[Hj.out,dP];exact b));have h7:=ag C;have L:=ag l;clear C b z A c M u l;unfold az;go_wp2_with fail
    go_quiet (fail)
    go_wp2
    go_ret3
    have hc:=O.out.trans ((((L.out.alloc (.cells #[Jn k0,Jn m0,.string s0,.pointer p0,.pointer none] 96)).drewN nq).below O.out.size (by intro k hk;omega)));refine⟨hc,?_,?_⟩
    .intro er p h;rw[<-q.out,T.out] at h;cases h;exact⟨rfl,h7.out⟩
    .intro f h;rw[<-q.out,T.out] at h;cases h
   |inr dk=>
    obtain⟨d,k⟩:=dk;obtain⟨rfl,rfl,rfl,rfl⟩:=A d k b;have Z:=eR s.data.toList _ 0 j none g k (by simp;omega) (λ_=>by simpa using N) b;simp only[dP] at Z;have hd:=K.out.length;have hg:css.length<=1000:=by omega
    have E:dl (w.heap.size+1) w2 u6 css:=jv r.out l (by omega);have t:=ag E;have P:=ag u;have L:=ag l;have U:=ag c;have h9:=ag (JG n s.data.toList i acc Hne.out g k (by rw[Hj.out,dP];exact b));clear u l c M z A b E hd;unfold az;go_wp2_with (at_builtin;refine nl _ rfl (.tmp 43) (.tmp 45) 65 rfl (w.heap.size+1) 96 i0 fm 5 48 underlying65 HI.out.1 HI.out.2.1 HI.out.2.2.1 HI.out.2.2.2 rfl (by decide) _ css.length (flat css) rfl ((t.out.alloc _).alloc _) (dq (w2.heap.size+1) 0) 1 1 [Jn k0,Jn m0,.string s0,.pointer p0,.pointer none] rfl rfl (iO (bR _ _ _)) (MF _ _ _ _) (by decide) (by unfold maxLen;omega) (by omega) (by simp;omega) (w2.heap.size+2) (by simp) ?_);intro g' hn w3 D y ha hl;have H3:=Ec y;have h8:=ag D;have X:=ag H3;clear D y ha H3;go_wp2;go_roundw
    case rel=>exact⟨n,k,acc++[g],css++[az k0 m0 s0 p0],CM (by omega) (by omega) (by rw[<-q.out,h9.out]) (by omega) O.out o.out r.out K.out L.out P.out U.out V.out hf X.out h8.out⟩
    case measure=>
     rw[qk o.out,qk (X.out.at P.out (λh=>by have:=(ar t.out h).1;omega))];simp;omega
theorem B8(s:ao):l7 s.data.toList=(s.toList==[113,117,111,116,101]||(s.toList==[105,102]||(s.toList==[100,101,102,105,110,101]||(s.toList==[115,101,116,33]||(s.toList==[108,97,109,98,100,97]||(s.toList==[98,101,103,105,110]||s.toList==[108,101,116])))))):=by
 rw[C3];simp only[l7,OS,R5,List.contains_nil,Bool.or_false]
theorem fd(s:ao)(w:aa):
  cl 109 #[.string s] w λe w'=>e=.returned (.bool (l7 s.data.toList))/\w'=w:=by
 have b:=ag (B8 s);go_enter func109,ntmps109;go_wp2
 all_goals
  go_ret;refine⟨aS ?_,rfl⟩;rw[b.out];clear b
  first|(rename_i h;rw[h];rfl)|simp only[Bool.or_assoc]
theorem nA(d:D)(k m:Int)(s:ao)(p:a8)(w:aa)(n:Nat)(h:RV w n (az k m s p) d):cI d=((k==3)&& !(l7 s.data.toList))/\(cI d=true->bS d=s.data.toList):=by
 cases n with
 |zero=>exact h.elim
 |succ n=>
  match d,h with
  |.agg [],h=>have h:az k m s p=az 4 0 aZ none:=h.2;cases h;exact⟨rfl,λh=>by cases h⟩
  |.agg (_::_),h=>obtain⟨b,c1,c2,h,_⟩:=h.2;cases h;exact⟨rfl,λh=>by cases h⟩
  |.lit (.int q x),h=>cases q<;>first|(cases h;done)|(have h:some _=some (az k m s p):=h;cases h;exact⟨rfl,λh=>by cases h⟩)
  |.lit (.bool b),h=>have h:some _=some (az k m s p):=h;cases h;exact⟨rfl,λh=>by cases h⟩
  |.lit (.string t),h=>have h:some _=some (az k m s p):=h;cases h;exact⟨rfl,λ_=>rfl⟩
  |.nil,h=>have h:some _=some (az k m s p):=h;cases h;exact⟨rfl,λh=>by cases h⟩
theorem nB(k m:Int)(s:ao)(p:a8)(w:aa):
  cl 65 #[.agg (az k m s p)] w λe w'=>e=.returned (.bool ((k==3)&& !(l7 s.data.toList)))/\Below w.heap.size w w':=by
 unfold az;by_cases b:(k==3)=true
 .go_enter func65,ntmps65;go_wp2_with (go_at_call 109;refine(fd _ _).mono ?_;rintro e w' ⟨rfl,rfl⟩);go_ret;exact⟨by rw[b];rfl,aR _ _⟩
 .have b:(k==3)=false:=by simpa using b
  go_enter func65,ntmps65;go_wp2_with (go_at_call 109;refine(fd _ _).mono ?_;rintro e w' ⟨rfl,rfl⟩);go_ret;exact⟨by rw[b];rfl,aR _ _⟩
theorem iS(n:Nat)(d:D)(cs:bc)(w:aa)(h:RV w n cs d):
  cl 65 #[.agg cs] w λe w'=>e=.returned (.bool (cI d))/\Below w.heap.size w w':=by
 obtain⟨k,m,s,p,rfl⟩:=T7 _ _ _ h;rw[(nA d k m s p w n h).1];exact nB k m s p w
def lH(w:aa)(v:al)(b:List bc):Prop:=
 ∃a c,v=.slice a b.length c/\b.length<=c/\c<=maxLen/\(0<b.length->∃g d,a=some ⟨g,d,none⟩/\g<w.heap.size/\∀(j:Nat) u,(flat b)[j]? =some u->w.cell? ⟨g,d+j,none⟩=some u)
theorem dl.rd{w:aa}{v:al}(h:dl B w v css):lH w v css:=by
 obtain⟨a,b,m,h1,h2,h3⟩:=ay h;refine⟨a,b,m,h1,h2,λhp=> ?_⟩;obtain⟨g,c,_,f,d⟩:=h3 hp;exact⟨g,0,c,f,λj u l=>by rw[C4];exact d j u l⟩
theorem lH.below{w:aa}{v:al}(h:lH w v css)(hb:Below w.heap.size w w'):lH w' v css:=by
 obtain⟨a,c,o,h1,h2,h3⟩:=h;refine⟨a,c,o,h1,h2,λhp=> ?_⟩;obtain⟨g,b,f,d,l⟩:=h3 hp;exact⟨g,b,f,gr d hb.size,λj u m=>by rw[hb.cell (p:=⟨g,b+j,none⟩) d];exact l j u m⟩
theorem dT.below{w:aa}(h:dT w n css ds)(hb:Below w.heap.size w w'):dT w' n css ds:=dT.ak (TX hb) _ _ _ h
theorem E7(d:D)(ds:List D)(k m:Int)(s:ao)(p:a8)(w:aa)(n:Nat)(h:RV w n (az k m s p) d):
  ((k==3)=false->aO (d::ds)=[])/\((k==3)=true->aO (d::ds)=if l7 s.data.toList then s.data.toList else []):=by
 cases n with
 |zero=>exact h.elim
 |succ n=>
  match d,h with
  |.agg [],h=>have h:az k m s p=az 4 0 aZ none:=h.2;cases h;exact⟨λ_=>rfl,λh=>by cases h⟩
  |.agg (_::_),h=>obtain⟨b,c1,c2,h,_⟩:=h.2;cases h;exact⟨λ_=>rfl,λh=>by cases h⟩
  |.lit (.int q x),h=>cases q<;>first|(cases h;done)|(have h:some _=some (az k m s p):=h;cases h;exact⟨λ_=>rfl,λh=>by cases h⟩)
  |.lit (.bool b),h=>have h:some _=some (az k m s p):=h;cases h;exact⟨λ_=>rfl,λh=>by cases h⟩
  |.lit (.string t),h=>have h:some _=some (az k m s p):=h;cases h;exact⟨(λh=>by cases h),λ_=>rfl⟩
  |.nil,h=>have h:some _=some (az k m s p):=h;cases h;exact⟨λ_=>rfl,λh=>by cases h⟩
theorem IA(n:Nat)(css:List bc)(ds:List D)(v:al)(w:aa)(l:lH w v css)(h:dT w n css ds):
  cl 67 #[v] w λe w'=>e=.returned (.string ⟨(aO ds).toArray⟩)/\w'=w:=by
 obtain⟨a,x,rfl,h1,h2,h3⟩:=l
 match css,ds,h with
 |[],[],_=>
  go_enter func67,ntmps67;go_wp2;go_ret;exact⟨rfl,rfl⟩
 |c::cs,d::ds,h=>
  obtain⟨g,t,rfl,A,q⟩:=h3 (by simp);obtain⟨y,b,_⟩:=h;obtain⟨k,m,s,p,rfl⟩:=T7 _ _ _ b;have r:=nA d k m s p w n b;have c0:Cl w g t (Jn k):=q 0 (Jn k) rfl;have c2:=q 2 (.string s) rfl;have o:=ag (E7 d ds k m s p w n b);have z:0<(az k m s p::cs).length:=by simp
  generalize (az k m s p::cs).length=ln at *
  have u:(0:Int)<(ln:Int):=by omega
  clear q h3 r b y;by_cases j:(k==3)=true
  .cases hkw:l7 s.data.toList with
   |true=>
    have f:=ag hkw;go_enter func67,ntmps67;go_wp2_with (go_at_call 109;refine(fd _ _).mono ?_;rintro e w' ⟨rfl,rfl⟩);go_ret;refine⟨?_,rfl⟩;rw[o.out.2 j,f.out];rfl
   |false=>
    have f:=ag hkw;go_enter func67,ntmps67;go_wp2_with (go_at_call 109;refine(fd _ _).mono ?_;rintro e w' ⟨rfl,rfl⟩);go_ret;refine⟨?_,rfl⟩;rw[o.out.2 j,f.out];rfl
  .have j:(k==3)=false:=by simpa using j
   go_enter func67,ntmps67;go_wp2;go_ret;refine⟨?_,rfl⟩;rw[o.out.1 j];rfl
def kY(ds:List D)(k:Nat):Bool:=bn [] (ds.take k)
def gq(ds:List D)(k j:Nat):Bool:= !(((ds.take j).map bS).contains (bS (ds.getD k .nil)))
theorem nC:∀(ds:List D) (d:D) (seen:List au),bn seen (ds++[d])=(bn seen ds&&(cI d&& !((seen++ds.map bS).contains (bS d))))
 |[],d,seen=>by simp[bn]
 |e::r,d,seen=>by
  have:=nC r d (seen++[bS e]);simp only[s6,bn,v6];rw[this,RH];simp[Sx]
theorem ee(ds:List D)(k:Nat)(h:k<ds.length):kY ds (k+1)=(kY ds k&&(cI ds[k]&&gq ds k k)):=by
 unfold kY gq;rw[mn h,nC];simp[pk,h]
theorem oX(ds:List D):kY ds ds.length=bn [] ds:=by unfold kY;rw[xp]
theorem nD(ds:List D)(k:Nat)(h:kY ds k=false)(d:k<=ds.length):bn [] ds=false:=by
 have:∀j,k+j<=ds.length->kY ds (k+j)=false:=by
  intro j;induction j with
  |zero=>intro _;exact h
  |succ j b=>intro c;rw[<-RU,ee ds (k+j) (by omega),b (by omega)];rfl
 have:=this (ds.length-k) (by omega);rw[show k+(ds.length-k)=ds.length from by omega,oX] at this;exact this
theorem pl(ds:List D)(k j:Nat)(h:j<ds.length):gq ds k (j+1)=(gq ds k j&& !(bS ds[j]==bS (ds.getD k .nil))):=by
 unfold gq;rw[mn h,s8,List.contains_eq_any_beq,List.contains_eq_any_beq,List.any_append];simp only[v6,SS,List.any_cons,List.any_nil,Bool.or_false,Bool.not_or];rw[show(bS (ds.getD k .nil)==bS ds[j])=(bS ds[j]==bS (ds.getD k .nil)) from by rw[C2,xb,xb];exact eq_comm]
theorem E4(ds:List D)(k j:Nat)(h:gq ds k j=false)(c:j<=k)(d:k<ds.length):gq ds k k=false:=by
 have:∀m,j+m<=k->gq ds k (j+m)=false:=by
  intro m;induction m with
  |zero=>intro _;exact h
  |succ m b=>intro hm;rw[<-RU,pl ds k (j+m) (by omega),b (by omega)];rfl
 have:=this (k-j) (by omega);rw[show j+(k-j)=k from by omega] at this;exact this
theorem vu(ds:List D):∀(k j:Nat) (c:k<=ds.length) (b:j<k),kY ds k=true->cI ds[j]=true
 |0,j,_,b,_=>absurd b (by omega)
 |k+1,j,c,b,h=>by
  rw[ee ds k (by omega),rr,rr] at h;rcases P5 (SZ b) with g|g
  .exact vu ds k j (by omega) g h.1
  .subst g;exact h.2.1
theorem TR(ds:List D)(k:Nat)(h:k<ds.length):ds.getD k .nil=ds[k]:=by simp[pk,h]
theorem sD{w:aa}{v:al}(h:dl B w v css)(f:dT w n css ds):∃a b,v=.slice a ds.length b/\ds.length<=b/\b<=maxLen/\
  ∀k (l:k<ds.length),∃g,a=eb g/\g<w.heap.size/\∃x m s p,RV w n (az x m s p) ds[k]/\Cl w g (k *5) (Jn x)/\Cl w g (k *5+1) (Jn m)/\Cl w g (k *5+2) (.string s)/\Cl w g (k *5+3) (.pointer p)/\Cl w g (k *5+4) (.pointer none):=by
 have t:=f.length;obtain⟨a,b,o,h1,h2,h3⟩:=ay h;rw[t] at o h1 h3;refine⟨a,b,o,h1,h2,λk l=> ?_⟩;obtain⟨g,q,_,r,d⟩:=h3 (by omega);obtain⟨c,_,u,j,hf⟩:=qp f k l;obtain⟨x,m,s,p,rfl⟩:=T7 _ _ _ j;exact⟨g,q,r,x,m,s,p,j,d _ _ (by have:=hf 0 (by omega);simpa[az] using this),d _ _ (by have:=hf 1 (by omega);simpa[az] using this),d _ _ (by have:=hf 2 (by omega);simpa[az] using this),d _ _ (by have:=hf 3 (by omega);simpa[az] using this),d _ _ (by have:=hf 4 (by omega);simpa[az] using this)⟩
theorem xK(n:Nat)(d:D)(cs:bc)(w:aa)(hv:RV w (n+1) cs d)(r:Bool)(W:Hid (r=(aX d&&bn [] (aE d)))):
  cl 69 #[.agg cs] w λe w'=>e=.returned (.bool r)/\Below w.heap.size w w':=by
 obtain⟨k0,m0,s0,p0,rfl⟩:=T7 _ _ _ hv;have hI:aE d=aE d:=rfl;have HV:=ag hv;clear hv hI;unfold az;go_enter func69,ntmps69;go_wp2_with fail;refine(lq n d (az k0 m0 s0 p0) _ (by exact RV.ak (TX (aR _ _)) _ _ _ HV.out)).mono ?_;rintro e w1 ⟨v,css,rfl,u,z,M⟩;have O:Below w.heap.size w w1:=(aR _ _).trans (M.mono (by simp));have h3:(aE d).length<=1000:=by
  have:=HV.out;cases d with
  |agg l=>exact this.1
  |slice l a=>cases this
  |_=>simp[aE]
 generalize aE d=ds at *
 obtain⟨a,h4,rfl,h5,h1,L⟩:=sD u z;have A:=ag O;have H:=ag L;clear O L M u z;cases hil:aX d with
 |false=>
  go_wp2;go_ret;exact⟨aS (by rw[W.out,hil];rfl),A.out⟩
 |true=>
  unfold maxLen at h1;go_wp2_with fail
  go_loopw [5] (λi wr=>∃k:Nat,k<=ds.length/\i=Jn k/\kY ds k=true/\Below w1.heap.size w1 wr) (λi _=>ds.length-(intOf i).toNat)
  case atStart=>exact⟨0,kc _,rfl,rfl,fL _ _⟩
  case round=>
   obtain⟨k,hk,rfl,V,b⟩:=hrel;have E:=ag V;clear V;by_cases hlt:k<ds.length
   .obtain⟨g,rfl,F,x,m,s,p,T,c0,c1,c2,c3,X⟩:=H.out k hlt;have d0:wr.cell? (dq g (k *5))=some (Jn x):=by rw[b.cell (p:=(dq g (k *5))) F];exact c0
    have d1:wr.cell? (dq g (k *5+1))=some (Jn m):=by rw[b.cell (p:=(dq g (k *5+1))) F];exact c1
    have d2:wr.cell? (dq g (k *5+2))=some (.string s):=by rw[b.cell (p:=(dq g (k *5+2))) F];exact c2
    have d3:wr.cell? (dq g (k *5+3))=some (.pointer p):=by rw[b.cell (p:=(dq g (k *5+3))) F];exact c3
    have d4:wr.cell? (dq g (k *5+4))=some (.pointer none):=by rw[b.cell (p:=(dq g (k *5+4))) F];exact X
    have J:=ag T;have f:=ag b;have Y:=ag c2;clear T b c0 c1 c2 c3 X;go_wp2_with fail;refine(iS n ds[k] (az x m s p) _ (by exact RV.ak (TX f.out) _ _ _ J.out)).mono ?_;rintro e w2 ⟨rfl,N⟩;have t:Below w1.heap.size w1 w2:=f.out.trans (N.mono f.out.size);have q:=ag t;clear N t d0 d1 d2 d3 d4;cases hvd:cI ds[k] with
    |false=>
     have C:=ag (nD ds (k+1) (by rw[ee ds k hlt,hvd];simp) (by omega));clear hvd;go_wp2;go_ret;exact⟨aS (by rw[W.out,C.out,RB]),A.out.trans (q.out.mono A.out.size)⟩
    |true=>
     have h0:=ag hvd;have Z:=ag ((nA ds[k] x m s p w1 n J.out).2 hvd);clear hvd;go_wp2_with fail
     go_loopw [6] (λi wq=>∃j:Nat,j<=k/\i=Jn j/\gq ds k j=true/\Below w1.heap.size w1 wq) (λi _=>k-(intOf i).toNat)
     case atStart=>exact⟨0,kc _,rfl,rfl,q.out⟩
     case round=>
      obtain⟨j,hj,rfl,P,c⟩:=hrel;have I:=ag P;clear P;by_cases G:j<k
      .obtain⟨g',h2,h6,x',m',s',p',y,c0,c1,c2,c3,X⟩:=H.out j (by omega);cases h2;have d2:wr.cell? (dq g (j *5+2))=some (.string s'):=by rw[c.cell (p:=(dq g (j *5+2))) F];exact c2
       have e2:wr.cell? (dq g (k *5+2))=some (.string s):=by rw[c.cell (p:=(dq g (k *5+2))) F];exact Y.out
       have U:=vu ds k j (by omega) G E.out;have Q:=(nA ds[j] x' m' s' p' w1 n y).2 U;have K:Hid (gq ds k (j+1)=(gq ds k j&& !(s'.toList==s.toList))):=by
        show _=_;rw[pl ds k j (by omega),TR ds k hlt,Q,Z.out,C3,C3]
       have o:=ag c;have h7:j<ds.length:=by omega
       clear U Q y c0 c1 c2 c3 X c;have i1:(0:Int)<=(j:Int):=by omega
       have i2:(j:Int)<(ds.length:Int):=by omega
       have i3:(0:Int)<=(k:Int):=by omega
       have i4:(k:Int)<(ds.length:Int):=by omega
       cases hss:(s'.toList==s.toList) with
       |true=>
        have C:=ag (nD ds (k+1) (by rw[ee ds k hlt,E4 ds k (j+1) (by rw[K.out,hss];simp) (by omega) hlt];simp) (by omega));go_wp2_with fail
        go_quiet (fail)
        go_wp2;go_ret;exact⟨aS (by rw[W.out,C.out,RB]),A.out.trans ((aB.below ((TW (λ_=>False) o.out).drewN _) (ew _) (λ_ h=>h.elim)).mono A.out.size)⟩
       |false=>
        go_wp2_with fail
        go_quiet (fail)
        go_wp2;go_roundw
        case rel=>exact⟨j+1,by omega,by go_num,by rw[K.out,I.out,hss];rfl,aB.below ((TW (λ_=>False) o.out).drewN _) (ew _) (λ_ h=>h.elim)⟩
        case measure=>simp[intOf];omega
      .have G:j=k:=by omega
       subst G;have o:=ag c;clear c;go_wp2;go_roundw
       case rel=>exact⟨j+1,by omega,by go_num,by rw[ee ds j hlt,E.out,h0.out,I.out];rfl,o.out⟩
       case measure=>simp[intOf];omega
   .have hk:k=ds.length:=by omega
    subst hk;have f:=ag b;clear b;go_wp2;go_ret;exact⟨aS (by rw[W.out,hil,<-oX,E.out];rfl),A.out.trans (f.out.mono A.out.size)⟩
theorem i9(n:Nat)(d:D)(cs:bc)(w:aa)(b:RV w (n+1) cs d):
  cl 69 #[.agg cs] w λe w'=>e=.returned (.bool (aX d&&bn [] (aE d)))/\Below w.heap.size w w':=xK n d cs w b _ rfl
open Go.Shelf
def zF:Go.Shelf.Ren:=⟨λ|137=>200|217=>221|266=>238|n=>n,λ|9=>9|5=>5|3=>3|n=>n,λ|n=>n⟩
theorem Mi:Go.Proofs.Lays.n137 prog zF:=by repeat' first|(intros;kernel_rfl)|constructor
open Go.RowKit in
theorem strings_IndexByte(s:ao)(c:Int)(w:aa):
  cl 200 #[.string s,.int .u8 c] w λe w'=>e=.returned (Jn (Lib.indexByte s.data.toList c.toNat.toUInt8))/\w'=w:=Any.strings_IndexByte Mi s c w
def wL:Go.Shelf.Ren:=⟨λ|316=>207|n=>n,λ|9=>9|3=>3|4=>4|37=>72|0=>0|127=>345|5=>5|n=>n,λ|n=>n⟩
theorem IS:Go.Proofs.LaysM.n316 prog wL:=by repeat' first|(intros;kernel_rfl)|constructor
open Go.RowKit in
theorem stringslite_Clone(s:ao)(w:aa)(b:s.size<=281474976710656):
  cl 207 #[.string s] w λe w'=>e=.returned (.string s)/\Below w.heap.size w w':=Any.stringslite_Clone IS s w b
def wJ:Go.Shelf.Ren:=⟨λ|174=>141|247=>205|245=>206|287=>224|279=>225|280=>226|281=>227|282=>228|321=>241|322=>242|316=>207|171=>244|205=>243|243=>250|246=>253|283=>254|284=>255|285=>256|286=>257|129=>259|317=>258|318=>260|319=>261|320=>262|337=>263|338=>264|n=>n,λ|9=>9|3=>3|2=>2|75=>103|85=>254|4=>4|167=>337|5=>5|53=>338|175=>339|46=>341|168=>342|37=>72|0=>0|210=>354|21=>21|127=>345|145=>359|143=>357|171=>365|173=>368|212=>371|51=>361|20=>20|213=>372|232=>375|233=>376|80=>232|n=>n,λ|15=>1|16=>2|17=>4|18=>5|19=>6|n=>n⟩
theorem IQ:Go.Proofs.LaysC.n174 prog wJ:=by repeat' first|(intros;kernel_rfl)|constructor
open Go.RowKit in
theorem strconv_ParseInt_10_at64_ok(s:ao)(b:s.size<=9223372036854775806)(v:Int)(h:Lib.parseIntB 64 s.data.toList=.ok v)(w:aa):
  cl 141 #[.string s,Jn 10,Jn 64] w λe w'=>e=.returned (.tuple #[Jn v,.nilIface])/\(w'=w\/∃t,w'=Lib.bytesWorld w 5 t):=Any.strconv_ParseInt_10_at64_ok IQ s b v h w
def zG:Go.Shelf.Ren:=⟨λ|144=>204|143=>223|219=>240|217=>221|225=>247|224=>248|267=>249|266=>238|314=>252|n=>n,λ|9=>9|4=>4|3=>3|5=>5|46=>341|146=>362|51=>361|n=>n,λ|1=>3|n=>n⟩
theorem Mj:Go.Proofs.Lays.n144 prog zG:=by repeat' first|(intros;kernel_rfl)|constructor
open Go.RowKit Go.Lib in
theorem strings_Contains(s sub:ao)(m:Int)(w:aa)(b:s.size<4294967281)(hm:Cl w 3 0 (Jn m)):
  cl 204 #[.string s,.string sub] w λe w'=>e=.returned (.bool (Lib.contains s.data.toList sub.data.toList))/\w'=w:=Any.strings_Contains Mj s sub m w b hm
def zA:Go.Shelf.Ren:=⟨λ|101=>201|208=>222|206=>239|n=>n,λ|9=>9|4=>4|3=>3|n=>n,λ|n=>n⟩
theorem Mh:Go.Proofs.Lays.n101 prog zA:=by repeat' first|(intros;kernel_rfl)|constructor
open Go.RowKit Go.Lib in
theorem strings_TrimPrefix(s p:ao)(w:aa):
  cl 201 #[.string s,.string p] w λe w'=>e=.returned (.string ⟨(Lib.trimPrefix s.data.toList p.data.toList).toArray⟩)/\w'=w:=Any.strings_TrimPrefix Mh s p w
def zD:Go.Shelf.Ren:=⟨λ|110=>229|109=>101|n=>n,λ|31=>26|9=>9|4=>4|3=>3|0=>0|n=>n,λ|n=>n⟩
theorem DQ:Go.Proofs.Lays.n110 prog zD:=by repeat' first|(intros;kernel_rfl)|constructor
open Go.Lib in
theorem slices_Contains_string(b d n c:Nat)(h:List ao)(x:ao)(w:aa)(m:n<=h.length)(f:n<=9223372036854775807)(l:∀j,j<h.length->Cl w b (d+j) (.string (h.getD j ByteArray.empty))):
  cl 229 #[.slice (some (dq b d)) n c,.string x] w λe w'=>e=.returned (.bool (Lib.containsS (h.take n) x))/\w'=w:=Any.slices_Contains_string DQ b d n c h x w m f l
open Go.Lib in
theorem slices_Contains_string_empty(a:a8)(c:Nat)(x:ao)(w:aa):
  cl 229 #[.slice a 0 c,.string x] w λe w'=>e=.returned (.bool false)/\w'=w:=Any.slices_Contains_string_empty DQ a c x w
def MaxOk(w:aa):Prop:=∃m,w.cell? ⟨3,0,none⟩=some (Jn m)
theorem MaxOk.lt{w:aa}(h:MaxOk w):3<w.heap.size:=by
 obtain⟨m,h⟩:=h;rcases sb 3 w.heap.size with hlt|b
 .exact hlt
 .exfalso;simp only[World.cell?] at h;rw[S7 b] at h;cases h
theorem MaxOk.below{w:aa}(h:MaxOk w)(hb:Below B w w')(hB:3<B):MaxOk w':=by
 obtain⟨m,h⟩:=h;exact⟨m,by rw[hb.cell (p:=⟨3,0,none⟩) hB];exact h⟩
theorem MaxOk.upd{w:aa}(h:MaxOk w)(d:aB S w w')(c:¬S 3):MaxOk w':=by
 have b:=h.lt;obtain⟨m,h⟩:=h;exact⟨m,by rw[xo (w:=w) (d.block 3 b c)];exact h⟩
theorem IB:∀n,n<256->decide (0<=Lib.indexByte [43,45,42,47,60,62,61,63,33,35] (Nat.toUInt8 n))=(nj.contains (n:Int)||(n:Int)==35):=by decide+kernel
theorem Nt(b:Int)(c:0<=b)(h1:b<=255):(bZ b !=0)=(pV b||(iG b||decide (0<=Lib.indexByte [43,45,42,47,60,62,61,63,33,35] b.toNat.toUInt8))):=by
 obtain⟨n,rfl⟩:=Int.eq_ofNat_of_zero_le c;rw[show((n:Int)).toNat=n from rfl,IB n (by omega)];unfold bZ;cases iG n<;>cases pV n<;>cases h:((n:Int)==35)<;>cases hh:nj.contains (n:Int)<;>simp_all
theorem cR(b:Int)(f:0<=b)(h1:b<=255)(w:aa):
  cl 134 #[.int .u8 b] w λe w'=>e=.returned (.bool (bZ b !=0))/\w'=w:=by
 have c:=ag (Nt b f h1);cases hl:pV b with
 |true=>
  have h2:97<=b/\b<=122:=by simpa[pV] using hl
  obtain⟨h2,h3⟩:=h2;go_enter func134,ntmps134;go_wp2;go_ret;exact⟨aS (by rw[c.out,hl];rfl),rfl⟩
 |false=>
  have h2:¬97<=b\/(97<=b/\¬b<=122):=by simp[pV] at hl;omega
  have d:=ag hl;clear hl;rcases h2 with h2|⟨h2,h3⟩
  all_goals
   cases hd:iG b with
   |true=>
    go_enter func134,ntmps134;go_wp2_with (go_at_call 199;refine(eZ _ _).mono ?_;rintro e w' ⟨rfl,rfl⟩);go_ret;exact⟨aS (by rw[c.out,d.out,hd];rfl),rfl⟩
   |false=>
    go_enter func134,ntmps134;go_wp2_with (first|(go_at_call 199;refine(eZ _ _).mono ?_;rintro e w' ⟨rfl,rfl⟩)|(go_at_call 200;refine(strings_IndexByte _ _ _).mono ?_;rintro e w' ⟨rfl,rfl⟩));go_ret;exact⟨aS (by rw[c.out,d.out,hd];rfl),rfl⟩
theorem oR(b:Int):(bZ b==1)=iG b:=by
 unfold bZ;cases iG b<;>simp;split
 .simp
 .split
  .simp
  .split<;>simp
def yI(s:ao)(k:Nat):Bool:=(s.data.toList.take k).all λc=>cY c==1
theorem BH(s:ao)(k:Nat)(h:k<s.size):yI s (k+1)=(yI s k&&iG s[k].toNat):=by
 unfold yI;rw[lz s k h,SP,<-oR];simp[cY]
theorem Hx(s:ao)(k:Nat)(b:k<s.size)(h:iG s[k].toNat=false):(s.data.toList.all λc=>cY c==1)=false:=by
 rw[List.all_eq_false];exact⟨s[k],by rw[<-gZ s k b,pk,fA (by simpa using b)];exact Sj _,by simp[cY];rw[<-Bool.not_eq_true] at h;rw[<-oR] at h;simpa using h⟩
theorem wH(s:ao)(o:s.size<=maxLen)(w:aa):
  cl 202 #[.string s] w λe w'=>e=.returned (.bool (s.data.toList.all λc=>cY c==1))/\w'=w:=by
 unfold maxLen at o;have b:∃r,r=(s.data.toList.all λc=>cY c==1):=⟨_,rfl⟩;obtain⟨r,b⟩:=b;rw[<-b];have f:=ag b;clear b;go_enter func202,ntmps202;go_wp2
 go_loop [6] (λv=>∃k:Nat,k<=s.size/\v=Jn k/\yI s k=true) (λv=>s.size-(intOf v).toNat)
 case atStart=>exact⟨0,kc _,rfl,rfl⟩
 case round=>
  obtain⟨k,j,rfl,h⟩:=hrel;have d:=ag h;clear h;by_cases hlt:k<s.size
  .cases hb:iG s[k].toNat with
   |true=>
    have m:=ag (BH s k hlt);go_wp2_with (go_at_call 199;refine(eZ _ _).mono ?_;rintro e w' ⟨rfl,rfl⟩)
    go_round
    case rel=>exact⟨k+1,by omega,by go_num,by rw[m.out,d.out,hb];rfl⟩
    case measure=>simp[intOf];omega
   |false=>
    have l:=ag (Hx s k hlt hb);go_wp2_with (go_at_call 199;refine(eZ _ _).mono ?_;rintro e w' ⟨rfl,rfl⟩);go_ret;exact⟨aS (by rw[f.out,l.out]),rfl⟩
  .have j:k=s.size:=by omega
   subst j;go_wp2;go_ret;exact⟨aS (by rw[f.out];have:=d.out;unfold yI at this;rw[s9 (by simp)] at this;exact this.symm),rfl⟩
theorem qb(s:ao)(p:s.size<=maxLen)(w:aa):
  cl 135 #[.string s] w λe w'=>e=.returned (Jn (oS s.data.toList))/\w'=w:=by
 unfold maxLen at p;have b:∃r:Int,r=(oS s.data.toList:Nat):=⟨_,rfl⟩;obtain⟨r,b⟩:=b;rw[<-b];have f:Hid (r=(bH s.data.toList 0:Nat)):=by show _=_;rw[b];simp[bH]
 clear b;go_enter func135,ntmps135;go_wp2
 go_loop [6] (λv=>∃k:Nat,k<=s.size/\v=Jn k/\bH s.data.toList k=bH s.data.toList 0) (λv=>s.size-(intOf v).toNat)
 case atStart=>exact⟨0,kc _,rfl,rfl⟩
 case round=>
  obtain⟨k,j,rfl,h⟩:=hrel;have c:=ag h;clear h;by_cases hlt:k<s.size
  .have m:(0:Int)<=(s[k].toNat:Int):=by omega
   have o:(s[k].toNat:Int)<=255:=by have:=s[k].toNat_lt;omega
   cases hb:(bZ s[k].toNat !=0) with
   |true=>
    have l:=ag (Kr s k hlt (by simpa using hb));go_wp2_with (go_at_call 134;refine(cR _ (by omega) (by omega) _).mono ?_;rintro e w' ⟨rfl,rfl⟩)
    go_round
    case rel=>exact⟨k+1,by omega,by go_num,by rw[l.out];exact c.out⟩
    case measure=>simp[intOf];omega
   |false=>
    have d:=ag (AM s k hlt (by simpa using hb));go_wp2_with (go_at_call 134;refine(cR _ (by omega) (by omega) _).mono ?_;rintro e w' ⟨rfl,rfl⟩);go_ret;exact⟨bL (by rw[f.out,<-c.out,d.out]),rfl⟩
  .have d:=ag (AK s k (by omega));have j:k=s.size:=by omega
   subst j;go_wp2;go_ret;exact⟨bL (by rw[f.out,<-c.out,d.out]),rfl⟩
def yx:au->Nat
 |[]=>0
 |c::r=>if c.toNat=10 then 0 else yx r+1
theorem DA:∀(l:au),(0<=Lib.indexByte l 10->Lib.indexByte l 10=yx l)/\(¬0<=Lib.indexByte l 10->yx l=l.length)
 |[]=>by simp[Lib.indexByte,yx]
 |c::r=>by
  have b:=DA r;simp only[Lib.indexByte,yx,j1];by_cases h:c=10
  .subst h;simp
  .have d:¬c.toNat=10:=λe=>h (Tu (by simpa using e));rw[fb (by simpa using h),fb d];by_cases h2:Lib.indexByte r 10= -1
   .rw[fN (by simpa using h2)];exact⟨λh=>absurd h (by omega),λ_=>by rw[b.2 (by omega)]⟩
   .rw[fb (by simpa using h2)];by_cases h3:0<=Lib.indexByte r 10
    .have:=b.1 h3;exact⟨λ_=>by omega,λh=>absurd h (by omega)⟩
    .exact⟨λh=>by omega,λ_=>by rw[b.2 h3]⟩
theorem mM(s:ao)(w:aa):
  cl 136 #[.string s] w λe w'=>e=.returned (Jn (yx s.data.toList))/\w'=w:=by
 have b:=ag (DA s.data.toList);by_cases h:0<=Lib.indexByte s.data.toList 10
 .go_enter func136,ntmps136;go_wp2_with (go_at_call 200;refine(strings_IndexByte _ _ _).mono ?_;rintro e w' ⟨rfl,rfl⟩);go_ret;exact⟨bL (b.out.1 h),rfl⟩
 .go_enter func136,ntmps136;go_wp2_with (go_at_call 200;refine(strings_IndexByte _ _ _).mono ?_;rintro e w' ⟨rfl,rfl⟩);go_ret;exact⟨bL (by rw[b.out.2 h];simp),rfl⟩
def em(l:au):Nat:=if cY (l.headD 0) !=0 then oS l else if(l.headD 0).toNat=59 then yx l else 1
theorem Cf(s:ao)(j:0<s.size)(o:s.size<=maxLen)(w:aa):
  cl 82 #[.string s] w λe w'=>e=.returned (Jn (em s.data.toList))/\w'=w:=by
 have f:s.data.toList.headD 0=s[0]:=by rw[jn s j];rfl
 have d:Hid (em s.data.toList=if bZ s[0].toNat !=0 then oS s.data.toList else if s[0].toNat=59 then yx s.data.toList else 1):=by show _=_;unfold em;rw[f];rfl
 clear f;have l:(0:Int)<=(s[0].toNat:Int):=by omega
 have m:(s[0].toNat:Int)<=255:=by have:=s[0].toNat_lt;omega
 cases hb:(bZ s[0].toNat !=0) with
 |true=>
  go_enter func82,ntmps82;go_wp2_with (first|(go_at_call 134;refine(cR _ (by omega) (by omega) _).mono ?_;rintro e w' ⟨rfl,rfl⟩)|(go_at_call 135;refine(qb _ o _).mono ?_;rintro e w' ⟨rfl,rfl⟩));go_ret;exact⟨bL (by rw[d.out,hb];rfl),rfl⟩
 |false=>
  by_cases c:s[0].toNat=59
  .have h:((s[0].toNat:Int)==59)=true:=by rw[xb];omega
   have b:=ag c;clear c;go_enter func82,ntmps82;go_wp2_with (first|(go_at_call 134;refine(cR _ (by omega) (by omega) _).mono ?_;rintro e w' ⟨rfl,rfl⟩)|(go_at_call 136;refine(mM _ _).mono ?_;rintro e w' ⟨rfl,rfl⟩));go_ret;exact⟨bL (by rw[d.out,hb,fb (by simp),fN b.out]),rfl⟩
  .have h:((s[0].toNat:Int)==59)=false:=by rw[j2];omega
   have b:=ag c;clear c;go_enter func82,ntmps82;go_wp2_with (go_at_call 134;refine(cR _ (by omega) (by omega) _).mono ?_;rintro e w' ⟨rfl,rfl⟩);go_ret;exact⟨bL (by rw[d.out,hb,fb (by simp),fb b.out];rfl),rfl⟩
end Go.Proofs.YtlobegpjenabaaaGreatDoor
