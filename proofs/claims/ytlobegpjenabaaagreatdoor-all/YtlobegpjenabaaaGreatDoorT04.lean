import Derived.Test.YtlobegpjenabaaaGreatDoorT03
import Derived.RangeFuncOwn
namespace Go.Proofs.YtlobegpjenabaaaGreatDoor
open Go.RowKit Tryz
set_option linter.unusedVariables false
set_option linter.defProp false
set_option maxRecDepth 100000
set_option maxHeartbeats 4000000
def Ix:=@List.length_singleton
def PN:=@decide_eq_true_eq
def RD:=@List.mem_cons
def RF:=@List.reverse_cons
def RN:=@List.flatMap_append
def R1:=@List.set_append_right
def R7:=@List.all_cons
def Se:=@List.mem_singleton
def Sy:=@List.length_reverse
def SJ:=@Nat.pow_le_pow_right
def SK:=@List.pairwise_append
def SN:=@Nat.min_eq_left
def Ta:=@Nat.mul_le_mul_right
def Tr:=@List.append_inj'
def TF:=@Nat.pow_succ
def TG:=@List.mem_map
variable {w' wr a w1 W':aa} {R n B j base e e' k g cap B1 B2 e1 e2 z1 z2 n1 n2 g2 cap2:Nat} {R':al->D->Prop} {vs xs fs ys xs1 xs2:a7} {ds:List D} {u fv ov a0 a1 v1 v2:al} {S:a9} {opens os:List (Bool×List D)} {its is':List (al×a7)} {T:bi}
theorem CW(c:bp):(cY c==3)=(c==35):=by
 rw[C2,xb,xb]
 constructor
 .intro h;have:(c.toNat:Int)=35:=by
   unfold cY bZ at h;split at h
   .omega
   .split at h
    .omega
    .split at h
     .rename_i h3;simpa using h3
     .split at h<;>omega
  exact Tu (by simpa using(show c.toNat=35 from by omega))
 .intro h;subst h;rfl
theorem zi:∀(l:au),0<=Lib.index l [35]↔35∈l
 |[]=>by simp[Lib.index]
 |c::r=>by
  have d:=zi r;have f:=Lib.index_ge r [35];simp only[Lib.index];split
  .rename_i h
   have:c=35:=by simp[List.isPrefixOf] at h;exact h.symm
   subst this;simp
  .rename_i h
   have b:¬35=c:=by simpa[List.isPrefixOf] using h
   simp only[RD,b,false_or];rw[<-d];split
   .rename_i h2;simp at h2;omega
   .rename_i h2;simp at h2;omega
theorem tn(l:au):Lib.contains l [35]=gS l:=by
 unfold Lib.contains gS;rw[C2,PN,zi,List.any_eq_true]
 constructor
 .intro h;exact⟨35,h,rfl⟩
 .rintro⟨x,b,h⟩;rw[CW,xb] at h;rw[<-h];exact b
def lF(t:au):Int:=if t=[35,116]\/t=[35,102] then 5 else if TK (body t) then(if 18<(body t).length then 0 else 4) else if od t||gS t then 0 else 6
def bI(t:au):Int:=
 if(t.headD 0).toNat=40 then 1 else if(t.headD 0).toNat=41 then 2 else if(t.headD 0).toNat=39 then 3
 else if(t.headD 0).toNat=32\/(t.headD 0).toNat=10\/(t.headD 0).toNat=59 then 7
 else if cY (t.headD 0)=0 then 0 else lF t
theorem zq(s:ao)(b:s.size<=maxLen)(w:aa):
  cl 203 #[.string s] w λe w'=>e=.returned (Jn (if 18<s.data.toList.length then 0 else 4))/\w'=w:=by
 rw[dP];unfold maxLen at b;by_cases h:18<s.size
 .have c:(18:Int)<(s.size:Int):=by omega
  rw[fN h];go_enter func203,ntmps203;go_wp2;go_ret;exact⟨rfl,rfl⟩
 .have c:¬(18:Int)<(s.size:Int):=by omega
  rw[fb h];go_enter func203,ntmps203;go_wp2;go_ret;exact⟨rfl,rfl⟩
theorem Gg(s:ao)(b:0<s.size):Lib.trimPrefix s.data.toList [45]=body s.data.toList:=by
 rw[jn s b];unfold Lib.trimPrefix Lib.hasPrefix body;by_cases h:s[0]=45
 .rw[h];simp[TL,List.isPrefixOf]
 .have h1:([45]:au).isPrefixOf (s[0]::List.drop 1 s.data.toList)=false:=by simp[List.isPrefixOf];exact λe=>h e.symm
  have h2:TL (s[0]::List.drop 1 s.data.toList)=false:=by
   simp only[TL];rw[j2];intro e;exact h (Tu (by simpa using e))
  rw[h1,h2];rfl
theorem tT(s:ao)(G:0<s.size)(O:s.size<=1000)(w:aa)(hm:MaxOk w):
  cl 137 #[.string s] w λe w'=>e=.returned (Jn (lF s.data.toList))/\w'=w:=by
 have A:∃r:Int,r=lF s.data.toList:=⟨_,rfl⟩;obtain⟨r,A⟩:=A;rw[<-A];have D:=ag A;clear A;obtain⟨I,z⟩:=hm;have L:=ag (Gg s G);have E:(body s.data.toList).length<=s.size:=by
  unfold body;split
  .simp
  .simp
 have x:(⟨(body s.data.toList).toArray⟩:ao).size=(body s.data.toList).length:=by simp[ByteArray.size]
 cases t1:(s.toList==[35,116]) with
 |true=>
  have e1:=xG s _ t1;go_enter func137,ntmps137;go_wp2_with (go_at_call 201;refine(strings_TrimPrefix _ _ _).mono ?_;rintro e w' ⟨rfl,rfl⟩);go_ret;exact⟨bL (by rw[D.out,e1];rfl),rfl⟩
 |false=>
 cases t2:(s.toList==[35,102]) with
 |true=>
  have e1:=xG s _ t2;go_enter func137,ntmps137;go_wp2_with (go_at_call 201;refine(strings_TrimPrefix _ _ _).mono ?_;rintro e w' ⟨rfl,rfl⟩);go_ret;exact⟨bL (by rw[D.out,e1];rfl),rfl⟩
 |false=>
  have n12:¬(s.data.toList=[35,116]\/s.data.toList=[35,102]):=λh=>h.elim (oT s _ t1) (oT s _ t2);have m:Hid (r=if TK (body s.data.toList) then(if 18<(body s.data.toList).length then 0 else 4) else if od s.data.toList||gS s.data.toList then 0 else 6):=by show _=_;rw[D.out,lF,fb n12]
  have p:Hid (od s.data.toList=iG s[0].toNat):=by show _=_;rw[jn s G,<-oR];rfl
  have C:=ag (tn s.data.toList);clear n12;go_enter func137,ntmps137;go_wp2_with fail;refine(strings_TrimPrefix s ⟨#[45]⟩ _).mono ?_;rintro e w' ⟨rfl,rfl⟩;have H:Lib.trimPrefix s.data.toList (⟨#[45]⟩:ao).data.toList=body s.data.toList:=L.out;rw[H];clear H;obtain⟨bs,d⟩:∃bs:ao,bs=⟨(body s.data.toList).toArray⟩:=⟨_,rfl⟩;rw[<-d];have o:bs.data.toList=body s.data.toList:=by rw[d]
  have M:bs.size<=1000:=by rw[d,x];omega
  have v:bs.size<=maxLen:=by unfold maxLen;omega
  have l:=ag o;have J:=ag d;rw[<-o] at E;clear o d x;have t:Hid (Lib.contains s.data.toList (⟨#[35]⟩:ao).data.toList=gS s.data.toList):=C.out;go_wp2_with fail
  .have y:bs.toList=[]:=by assumption
   have i:Hid (TK (body s.data.toList)=false):=by show _=_;rw[<-l.out,<-C3,y];rfl
   refine(eZ _ _).mono ?_;rintro e w' ⟨rfl,rfl⟩;cases hd:iG s[0].toNat with
   |true=>
    go_wp2;go_ret;exact⟨bL (by rw[m.out,i.out,p.out,hd];rfl),rfl⟩
   |false=>
    go_wp2_with fail;refine(strings_Contains s ⟨#[35]⟩ I _ (by omega) z).mono ?_;rintro e w' ⟨rfl,rfl⟩;rw[t.out];cases hh:gS s.data.toList with
    |true=>
     go_wp2;go_ret;exact⟨bL (by rw[m.out,i.out,p.out,hd,hh];rfl),rfl⟩
    |false=>
     go_wp2;go_ret;exact⟨bL (by rw[m.out,i.out,p.out,hd,hh];rfl),rfl⟩
  .have y:¬bs.toList=[]:=by assumption
   have N:bs.toList.isEmpty=false:=by cases h:bs.toList with|nil=>exact absurd h y|cons a b=>rfl
   refine(wH bs v _).mono ?_;rintro e w' ⟨rfl,rfl⟩;have i:Hid (TK (body s.data.toList)=(bs.data.toList.all λc=>cY c==1)):=by
    show _=_;rw[<-l.out,TK];rw[C3] at y;have:bs.data.toList.isEmpty=false:=by cases h:bs.data.toList with|nil=>exact absurd h y|cons a b=>rfl
    rw[this];rfl
   cases hal:(bs.data.toList.all λc=>cY c==1) with
   |true=>
    obtain⟨q,F⟩:∃q:Int,q=if 18<bs.data.toList.length then 0 else 4:=⟨_,rfl⟩
    have K:=ag F;have f:=zq bs v w';rw[<-F] at f;have f:=ag f;clear F;go_wp2_with (go_at_call 203;refine f.out.mono ?_;rintro e w' ⟨rfl,rfl⟩);go_ret;exact⟨bL (by rw[m.out,i.out,hal,K.out,<-l.out];rfl),rfl⟩
   |false=>
    go_wp2_with fail;refine(eZ _ _).mono ?_;rintro e w' ⟨rfl,rfl⟩;cases hd:iG s[0].toNat with
    |true=>
     go_wp2;go_ret;exact⟨bL (by rw[m.out,i.out,hal,p.out,hd];rfl),rfl⟩
    |false=>
     go_wp2_with fail;refine(strings_Contains s ⟨#[35]⟩ I _ (by omega) z).mono ?_;rintro e w' ⟨rfl,rfl⟩;rw[t.out];cases hh:gS s.data.toList with
     |true=>
      go_wp2;go_ret;exact⟨bL (by rw[m.out,i.out,hal,p.out,hd,hh];rfl),rfl⟩
     |false=>
      go_wp2;go_ret;exact⟨bL (by rw[m.out,i.out,hal,p.out,hd,hh];rfl),rfl⟩
theorem B7(s:ao)(x:0<s.size)(z:s.size<=1000)(w:aa)(hm:MaxOk w):
  cl 83 #[.string s] w λe w'=>e=.returned (Jn (bI s.data.toList))/\w'=w:=by
 have y:s.data.toList.headD 0=s[0]:=by rw[jn s x];rfl
 have o:∃r:Int,r=bI s.data.toList:=⟨_,rfl⟩;obtain⟨r,o⟩:=o;rw[<-o];have h:Hid (r=if s[0].toNat=40 then 1 else if s[0].toNat=41 then 2 else if s[0].toNat=39 then 3 else if s[0].toNat=32\/s[0].toNat=10\/s[0].toNat=59 then 7 else if bZ s[0].toNat=0 then 0 else lF s.data.toList):=by
  show _=_;rw[o,bI,y];rfl
 clear o y;have p:=ag (tT s x z w hm);clear hm;have q:(0:Int)<=(s[0].toNat:Int):=by omega
 have t:(s[0].toNat:Int)<=255:=by have:=s[0].toNat_lt;omega
 by_cases d:s[0].toNat=40
 .have b40:((s[0].toNat:Int)==40)=true:=by rw[xb];omega
  have b:=ag d;clear d;go_enter func83,ntmps83;go_wp2;go_ret;exact⟨bL (by rw[h.out,b.out];rfl),rfl⟩
 have b40:((s[0].toNat:Int)==40)=false:=by rw[j2];omega
 by_cases f:s[0].toNat=41
 .have b41:((s[0].toNat:Int)==41)=true:=by rw[xb];omega
  have b:=ag f;clear f;go_enter func83,ntmps83;go_wp2;go_ret;exact⟨bL (by rw[h.out,b.out];rfl),rfl⟩
 have b41:((s[0].toNat:Int)==41)=false:=by rw[j2];omega
 by_cases c:s[0].toNat=39
 .have b39:((s[0].toNat:Int)==39)=true:=by rw[xb];omega
  have b:=ag c;clear c;go_enter func83,ntmps83;go_wp2;go_ret;exact⟨bL (by rw[h.out,b.out];rfl),rfl⟩
 have b39:((s[0].toNat:Int)==39)=false:=by rw[j2];omega
 by_cases l:s[0].toNat=32
 .have b32:((s[0].toNat:Int)==32)=true:=by rw[xb];omega
  have b:=ag l;clear l;go_enter func83,ntmps83;go_wp2;go_ret;exact⟨bL (by rw[h.out,b.out];rfl),rfl⟩
 have b32:((s[0].toNat:Int)==32)=false:=by rw[j2];omega
 by_cases i:s[0].toNat=10
 .have b10:((s[0].toNat:Int)==10)=true:=by rw[xb];omega
  have b:=ag i;clear i;go_enter func83,ntmps83;go_wp2;go_ret;exact⟨bL (by rw[h.out,b.out];rfl),rfl⟩
 have b10:((s[0].toNat:Int)==10)=false:=by rw[j2];omega
 by_cases m:s[0].toNat=59
 .have b59:((s[0].toNat:Int)==59)=true:=by rw[xb];omega
  have b:=ag m;clear m;go_enter func83,ntmps83;go_wp2;go_ret;exact⟨bL (by rw[h.out,b.out];rfl),rfl⟩
 have b59:((s[0].toNat:Int)==59)=false:=by rw[j2];omega
 have v:Hid (r=if bZ s[0].toNat=0 then 0 else lF s.data.toList):=by show _=_;rw[h.out,fb d,fb f,fb c,fb (by omega)]
 clear d f c l i m;cases hb:(bZ s[0].toNat !=0) with
 |false=>
  go_enter func83,ntmps83;go_wp2_with (go_at_call 134;refine(cR _ (by omega) (by omega) _).mono ?_;rintro e w' ⟨rfl,rfl⟩);go_ret;exact⟨bL (by rw[v.out,fN (by simpa using hb)]),rfl⟩
 |true=>
  go_enter func83,ntmps83;go_wp2_with fail;refine(cR _ q t _).mono ?_;rintro e w' ⟨rfl,rfl⟩;go_wp2_with fail;refine p.out.mono ?_;rintro e w' ⟨rfl,rfl⟩;go_wp2;go_ret;exact⟨bL (by rw[v.out,fb (by simpa using hb)]),rfl⟩
def mK:D->Option al
 |.lit (.int .i64 k)=>some (.iface 130 (.int .i64 k))
 |.lit (.bool b)=>some (.iface 131 (.bool b))
 |.lit (.string t)=>some (.iface 134 (.string ⟨t.toArray⟩))
 |_=>none
def cK(w:aa)(R:al->D->Prop):al->List D->Prop
 |v,[]=>v=.iface 207 (.agg #[])
 |v,d::r=>∃b v1 a,v=.iface 136 (.pointer (some ⟨b,0,none⟩))/\w.heap[b]? =some (Obj.cells #[v1,a] 205 (0,0))/\R v1 d/\cK w R a r
def IV(w:aa):Nat->al->D->Prop
 |0,_,_=>False
 |n+1,v,.agg l=>l.length<=1000/\cK w (IV w n) v l
 |n+1,v,.slice l a=>(l.length<=1000/\cK w (IV w n) v l)/\0<l.length/\∃b:Nat,a=[.lit (.int .i64 b)]/\v=.iface 136 (.pointer (some ⟨b,0,none⟩))
 |_+1,v,d=>mK d=some v
def cH(w:aa)(n:Nat):a7->List D->Prop
 |[],[]=>True
 |v::vs,d::ds=>IV w n v d/\cH w n vs ds
 |_,_=>False
theorem cK.ak{w:aa}{R:al->D->Prop}(k:aC 205 w w')(hR:∀c d,R c d->R' c d):∀(l:List D) (v:al),cK w R v l->cK w' R' v l
 |[],v,h=>h
 |d::r,v,⟨b,v1,v2,e,hb,f,i⟩=>⟨b,v1,v2,e,k _ _ hb,hR _ _ f,cK.ak k hR r v2 i⟩
theorem IV.ak{w:aa}(k:aC 205 w w'):∀(n:Nat) (v:al) (d:D),IV w n v d->IV w' n v d
 |0,_,_,h=>h.elim
 |n+1,v,.agg l,h=>⟨h.1,cK.ak k (IV.ak k n) l v h.2⟩
 |n+1,v,.lit _,h=>h
 |n+1,v,.nil,h=>h
 |n+1,v,.ptr _,h=>h
 |n+1,v,.slice l _,h=>⟨⟨h.1.1,cK.ak k (IV.ak k n) l v h.1.2⟩,h.2⟩
 |n+1,v,.iface _ _,h=>h
 |n+1,v,.map _,h=>h
 |n+1,v,.held _,h=>h
theorem cH.ak{w:aa}(k:aC 205 w w')(n:Nat):∀(vs:a7) (ds:List D),cH w n vs ds->cH w' n vs ds
 |[],[],h=>h
 |c::cs,d::ds,h=>⟨IV.ak k n c d h.1,cH.ak k n cs ds h.2⟩
 |[],_::_,h=>h.elim
 |_::_,[],h=>h.elim
theorem IV.up{w:aa}:∀(n:Nat) (v:al) (d:D),IV w n v d->IV w (n+1) v d
 |0,_,_,h=>h.elim
 |n+1,v,.agg l,h=>⟨h.1,cK.ak (TY w) (IV.up n) l v h.2⟩
 |n+1,v,.lit _,h=>h
 |n+1,v,.nil,h=>h
 |n+1,v,.ptr _,h=>h
 |n+1,v,.slice l _,h=>⟨⟨h.1.1,cK.ak (TY w) (IV.up n) l v h.1.2⟩,h.2⟩
 |n+1,v,.iface _ _,h=>h
 |n+1,v,.map _,h=>h
 |n+1,v,.held _,h=>h
theorem IV.pos{w:aa}{v:al}{d:D}(h:IV w n v d):0<n:=by
 cases n with
 |zero=>exact h.elim
 |succ n=>omega
theorem IV.len{w:aa}{v:al}{d:D}(h:IV w n v d):(aE d).length<=1000:=by
 obtain⟨m,rfl⟩:∃m,n=m+1:=⟨n-1,by have:=h.pos;omega⟩;cases d with
 |agg l=>exact h.1
 |slice l a=>exact h.1.1
 |_=>simp[aE]
theorem cH.length{w:aa}:∀{vs:a7} {ds:List D},cH w n vs ds->vs.length=ds.length
 |[],[],_=>rfl
 |c::cs,d::ds,h=>by simp[cH.length h.2]
 |[],_::_,h=>h.elim
 |_::_,[],h=>h.elim
theorem cH.append{w:aa}:∀{vs:a7} {ds:List D} {f:a7} {b:List D},cH w n vs ds->cH w n f b->cH w n (vs++f) (ds++b)
 |[],[],_,_,_,i=>i
 |c::cs,d::ds,_,_,h,i=>⟨h.1,cH.append h.2 i⟩
 |[],_::_,_,_,h,_=>h.elim
 |_::_,[],_,_,h,_=>h.elim
theorem cH.at{w:aa}:∀{vs:a7} {ds:List D} (h:cH w n vs ds) (k:Nat) (b:k<ds.length),∃v,vs[k]? =some v/\IV w n v ds[k]
 |[],[],_,k,b=>absurd b (by simp)
 |c::cs,d::ds,h,0,_=>⟨c,rfl,h.1⟩
 |c::cs,d::ds,h,k+1,b=>by
  obtain⟨v,h1,h2⟩:=cH.at h.2 k (by simpa using b);exact⟨v,by simpa using h1,h2⟩
 |[],_::_,h,_,_=>h.elim
 |_::_,[],h,_,_=>h.elim
theorem cK.form{w:aa}{R:al->D->Prop}:∀{l:List D} {v:al},cK w R v l->∃t x,v=.iface t x
 |[],v,h=>⟨_,_,h⟩
 |_::_,v,h=>by obtain⟨b,v1,v2,e,_⟩:=h;exact⟨_,_,e⟩
theorem IV.form{w:aa}:∀(n:Nat) (v:al) (d:D),IV w n v d->∃t x,v=.iface t x
 |0,_,_,h=>h.elim
 |n+1,v,.agg l,h=>h.2.form
 |n+1,v,.lit (.int k m),h=>by
  cases k<;>first|(cases h;done)|(have h:some _=some v:=h;cases h;exact⟨_,_,rfl⟩)
 |n+1,v,.lit (.bool _),h=>by have h:some _=some v:=h;cases h;exact⟨_,_,rfl⟩
 |n+1,v,.lit (.string _),h=>by have h:some _=some v:=h;cases h;exact⟨_,_,rfl⟩
 |n+1,v,.lit (.float _ _),h=>by cases h
 |n+1,v,.lit .nil,h=>by cases h
 |n+1,v,.nil,h=>by cases h
 |n+1,v,.ptr _,h=>by cases h
 |n+1,v,.slice _ _,h=>by obtain⟨_,_,b,_,rfl⟩:=h;exact⟨_,_,rfl⟩
 |n+1,v,.iface _ _,h=>by cases h
 |n+1,v,.map _,h=>by cases h
 |n+1,v,.held _,h=>by cases h
def bT(B:Nat)(w:aa)(v:al)(vs:a7):Prop:=w.ownsRow B 81 1 v vs.length vs
theorem bT.nil(B:Nat)(w:aa):bT B w (.slice none 0 0) []:=oh _ _ _ _
theorem jQ:(prog.info? 81).map (λi=>(i.zero,i.size,i.bytes))=some (some .nilIface,1,16):=by kernel_rfl
def Rd(v:al):Prop:=∀b,v≠.iface 136 (Pt b)
def lG(w:aa)(v:al)(b:Nat)(v1 a:al):Prop:=v=.iface 136 (Pt b)/\w.heap[b]? =some (Obj.cells #[v1,a] 205 (0,0))
abbrev Sp(w:aa):Nat->Nat->al->Prop:=sV Rd (lG w)
abbrev qh(w:aa):Nat->a7->Nat->Prop:=eN Rd (lG w)
theorem lG.ak{w:aa}(k:aC 205 w w')(v:al)(b:Nat)(v1 v2:al)(h:lG w v b v1 v2):lG w' v b v1 v2:=⟨h.1,k _ _ h.2⟩
theorem M6{w:aa}{v:al}(d:bT B w v vs)(b:cH w n vs ds):∃a cap,v=.slice a ds.length cap/\ds.length<=cap/\cap<=maxLen/\
  ∀k (f:k<ds.length),∃g,a=eb g/\g<w.heap.size/\∃t x,IV w n (.iface t x) ds[k]/\Cl w g k (.iface t x)/\vs[k]? =some (.iface t x):=by
 have p:=b.length;obtain⟨a,cap,i,h1,h2,h3⟩:=ay d;rw[p] at i h1 h3;refine⟨a,cap,i,h1,h2,λk f=> ?_⟩;obtain⟨g,l,_,o,m⟩:=h3 (by omega);obtain⟨u,h,c⟩:=b.at k f;obtain⟨t,x,rfl⟩:=IV.form _ _ _ c;exact⟨g,l,o,t,x,c,m _ _ h,h⟩
theorem zk{w:aa}{v:al}(h:j<ds.length)(c:cK wr (IV wr n) v (ds.drop (j+1)))(hb:Below w.heap.size w wr)(f:IV w n u ds[j]):
  cK (wr.alloc (.cells #[u,v] 205)) (IV (wr.alloc (.cells #[u,v] 205)) n) (.iface 136 (Pt wr.heap.size)) (ds.drop j)/\Below w.heap.size w (wr.alloc (.cells #[u,v] 205)):=by
 have b:Below wr.heap.size wr (wr.alloc (.cells #[u,v] 205)):=aR _ _;have d:=TX (T:=205) b;rw[TM ds j h];exact⟨⟨_,u,v,rfl,fK _ _,IV.ak ((TX hb).trans d) _ _ _ f,cK.ak d (IV.ak d n) _ _ c⟩,hb.alloc hb.size _⟩
theorem IC{w:aa}{lo:Nat}{v:al}(f:vs[j]? =some u)(hb:Below w.heap.size w wr)(d:∀lo,qh w lo (vs.drop (j+1)) w.heap.size->Sp wr lo wr.heap.size v)(h:qh w lo (vs.drop j) w.heap.size):Sp (wr.alloc (.cells #[u,v] 205)) lo (wr.alloc (.cells #[u,v] 205)).heap.size (.iface 136 (Pt wr.heap.size)):=by
 have b:Below wr.heap.size wr (wr.alloc (.cells #[u,v] 205)):=aR _ _;obtain⟨c,e⟩:=ke.1 f;rw[K1 c,e] at h;obtain⟨m,h1,h2⟩:=h;exact .pair lo m wr.heap.size _ _ u v ⟨rfl,fK _ _⟩ (h1.ak (lG.ak ((TX hb).trans (TX b)))) ((d m h2).ak (lG.ak (TX b))) (by simp)
theorem uA(n:Nat)(vs:a7)(ds:List D)(v:al)(w:aa)(B:Nat)(d:bT B w v vs)(f:cH w n vs ds)(r:ds.length<=1000):
  cl 139 #[v] w λe w'=>∃u,e=.returned u/\IV w' (n+1) u (.agg ds)/\Below w.heap.size w w'/\∀lo,qh w lo vs w.heap.size->Sp w' lo w'.heap.size u:=by
 obtain⟨a,cap,rfl,I,G,o⟩:=M6 d f;have z:=ag o;have E:=ag f.length;clear o d f;unfold maxLen at G;go_enter func139,ntmps139;go_wp2
 go_loopw [3,4] (λu i wr=>∃k:Nat,k<=ds.length/\i=Jn ((k:Int)-1)/\cK wr (IV wr n) u (ds.drop k)/\Below w.heap.size w wr/\∀lo,qh w lo (vs.drop k) w.heap.size->Sp wr lo wr.heap.size u) (λ_ i _=>(intOf i+1).toNat)
 case atStart=>exact⟨ds.length,ew _,rfl,by rw[RK];rfl,fL _ _,λlo h=>by rw[<-E.out,RK] at h;exact .atom _ _ _ h (λb e=>by cases e)⟩
 case round=>
  obtain⟨k,O,rfl,c,hb,s⟩:=hrel;have m:=ag s;clear s;have l:=ag c;have A:=ag hb;rcases Sd k with rfl|K
  .obtain⟨t,x,rfl⟩:=c.form;clear c hb;go_wp2;go_ret;exact⟨_,rfl,⟨r,l.out⟩,A.out,m.out⟩
  .obtain⟨j,rfl⟩:∃j,k=j+1:=⟨k-1,by omega⟩;obtain⟨g,rfl,J,t,x,q,c0,y⟩:=z.out j (by omega);have F:=ag y;clear y;obtain⟨P,x2,rfl⟩:=c.form;have N:wr.cell? (dq g j)=some (.iface t x):=by rw[hb.cell (p:=(dq g j)) J];exact c0
   have H:j<ds.length:=by omega
   have C:=ag q;clear c hb q c0;go_wp2;go_roundw
   case rel=>
    obtain⟨L,M⟩:=zk H l.out A.out C.out;exact⟨j,by omega,rfl,L,M,λlo h=>IC F.out A.out m.out h⟩
   case measure=>simp[intOf]
theorem vh(c:bp)(h:(cY c==1)=true):48<=c.toNat/\c.toNat<=57:=by
 have:=vg (b:=(c.toNat:Int)) h;omega
theorem mj:∀(l:au) (a:Nat) (k:Nat),(l.all λc=>cY c==1)=true->a<10^k->k+l.length<=18->∃u:Nat,Lib.parseUintM (2^64-1) a l=.ok u/\oU a l=u/\u<10^(k+l.length)
 |[],a,k,_,f,_=>⟨a,by simp[Lib.parseUintM],rfl,by simpa using f⟩
 |c::r,a,k,b,f,d=>by
  simp only[R7,rr] at b;obtain⟨h1,h2⟩:=vh c b.1;have hlt:10 *a+(c.toNat-48)<10^(k+1):=by rw[TF];omega
  have hp:10^(k+1)<=10^18:=SJ (by omega) (by simp at d;omega);obtain⟨u,e1,e2,e3⟩:=mj r (10 *a+(c.toNat-48)) (k+1) b.2 hlt (by simp at d;omega);refine⟨u,?_,?_,by rw[j1];rw[show k+(r.length+1)=k+1+r.length from by omega];exact e3⟩
  .have h:10^k<=10^17:=SJ (by omega) (by simp at d;omega);rw[Lib.parseUintM,fN ⟨h1,h2⟩,fb (by omega),fb (by omega),Nat.mul_comm a 10];exact e1
  .rw[oU,<-e2];congr 1;omega
theorem Fw(t:au)(i:TK (body t)=true)(l:(body t).length<=18):Lib.parseIntB 64 t=.ok (if TL t then-(val (body t)) else val (body t)):=by
 have f:(body t).isEmpty=false/\((body t).all λc=>cY c==1)=true:=by
  unfold TK at i;rw[rr] at i;exact⟨by simpa using i.1,i.2⟩
 obtain⟨u,e1,e2,e3⟩:=mj (body t) 0 0 f.2 (by simp) (by omega);have o:u<10^18:=gr e3 (SJ (by omega) (by omega));have hB:Lib.parseUintB 64 (body t)=.ok u:=by
  unfold Lib.parseUintB;rw[fb (by intro h;rw[h] at f;exact absurd f.1 (by simp))];exact e1
 have d:val (body t)=u:=e2;cases t with
 |nil=>simp[body,TL,TK] at i
 |cons c r=>
  by_cases hm:c.toNat=45
  .have b:TL (c::r)=true:=by simp[TL,hm]
   have hb:body (c::r)=r:=by unfold body;rw[b];rfl
   rw[hb] at hB d;simp only[Lib.parseIntB];rw[fN (RA hm),hB,b,hb,d];simp only[hm];rw[fb (by simp),fb (by omega)]
  .have b:TL (c::r)=false:=by simp[TL,hm]
   have hb:body (c::r)=c::r:=by unfold body;rw[b];rfl
   have m:¬c.toNat=43:=by
    intro h;have:=f.2;rw[hb,R7,rr] at this;have:=vh c this.1;omega
   rw[hb] at hB d;simp only[Lib.parseIntB];rw[fb (by omega),hB,b,hb,d];simp only[hm];rw[fb (by simp;omega),fb (by simp)];rfl
theorem P3(s:ao):(⟨s.data.toList.toArray⟩:ao)=s:=by cases s;simp
theorem j5(t:au):(lF t=0/\ig t=none)\/(lF t=5/\∃b,t=[35,if b then 116 else 102]/\ig t=some (Qz b))\/(lF t=4/\TK (body t)=true/\(body t).length<=18/\ig t=some (num (if TL t then-(val (body t)) else val (body t))))\/(lF t=6/\ig t=some (sym t)):=by
 unfold lF ig;by_cases h1:t=[35,116]
 .subst h1;exact RA (RP ⟨rfl,true,rfl,rfl⟩)
 by_cases h2:t=[35,102]
 .subst h2;exact RA (RP ⟨rfl,false,rfl,rfl⟩)
 rw[fb (by simp[h1,h2]),fb h1,fb h2];by_cases c:TK (body t)=true
 .rw[fN c,fN c];by_cases d:18<(body t).length
  .rw[fN d,fN d];exact RP ⟨rfl,rfl⟩
  .rw[fb d,fb d];exact RA (RA (RP ⟨rfl,c,by omega,rfl⟩))
 .rw[fb c,fb c];by_cases hf:(od t||gS t)=true
  .rw[fN hf,fN hf];exact RP ⟨rfl,rfl⟩
  .rw[fb hf,fb hf];exact RA (RA (RA ⟨rfl,rfl⟩))
theorem EB(s:ao)(c:s.size<=1000)(w:aa):
  cl 142 #[.string s] w λe w'=>e=.returned (.string s)/\Below w.heap.size w w':=by
 go_enter func142,ntmps142;go_wp2_with fail;refine(stringslite_Clone s _ (by omega)).mono ?_;rintro e w1 ⟨rfl,hb⟩;have b:=ag hb;clear hb;go_wp2;go_ret;exact⟨rfl,b.out⟩
theorem sO(s:ao)(p:Int)(r:s.size<=1000)(d:D)(c:ig s.data.toList=some d)(w:aa):
  cl 87 #[.agg #[Jn (lF s.data.toList),Jn p,.string s]] w λe w'=>∃u,e=.returned u/\mK d=some u/\Below w.heap.size w w':=by
 rcases j5 s.data.toList with⟨h1,h2⟩|⟨h1,b,h2,h3⟩|⟨h1,h2,h3,i⟩|⟨h1,h2⟩
 .rw[h2] at c;cases c
 .rw[h3] at c;cases c;rw[h1];have hb:(s.toList==[35,116])=b:=by rw[C3,h2];cases b<;>rfl
  clear h1 h2 h3;go_enter func87,ntmps87;go_wp2;go_ret;exact⟨_,rfl,by rw[<-hb];rfl,aR _ _⟩
 .obtain⟨q,l⟩:∃q:Int,q=if TL s.data.toList then-(val (body s.data.toList)) else val (body s.data.toList):=⟨_,rfl⟩
  have hp:=Fw _ h2 h3;rw[<-l] at i hp;rw[i] at c;cases c;rw[h1];have o:=ag (strconv_ParseInt_10_at64_ok s (by omega) q hp);clear h1 h2 h3 i l hp;go_enter func87,ntmps87;go_wp2_with fail;refine(o.out _).mono ?_;rintro e w1 ⟨rfl,m⟩;have hb:Below w.heap.size w w1:=by
   rcases m with rfl|⟨t,rfl⟩
   .exact aR _ _
   .exact(aR _ _).trans ((Lib.bytesWorld_below _ _ _).mono (by simp))
  have h:=ag hb;clear m hb;go_wp2;go_ret;exact⟨_,rfl,rfl,h.out⟩
 .rw[h2] at c;cases c;rw[h1];clear h1 h2;go_enter func87,ntmps87;go_wp2_with fail;refine(EB s r _).mono ?_;rintro e w1 ⟨rfl,f⟩;have h:=ag (show Below w.heap.size w w1 from(aR _ _).trans (f.mono (by simp)));clear f;go_wp2;go_ret;exact⟨_,rfl,by simp only[sym,mK,P3];rfl,h.out⟩
attribute [local go_sem↓] Go.wp_at_zero Go.wp_at_succ
def Gs(a b:al):Obj:=.cells #[a,b] 122 (0,0)
theorem gH(R g n cap:Nat)(fv:al)(w:aa)(hR:w.heap[R]? =some (Gs fv (.slice (eb g) n cap)))(c:0<n)(b:n<=cap)(hm:cap<=maxLen):
  cl 138 #[Pt R] w λe w'=>e=.returned (.pointer (some (dq g ((n-1) *2))))/\∃q,w'=w.drewN q:=by
 have c1:=ae hR 1;simp at c1;clear hR;unfold maxLen at hm;obtain⟨m,rfl⟩:∃m,n=m+1:=⟨n-1,by omega⟩;have d:(0:Int)<=((m+1:Nat):Int)-1:=by omega
 have f:((m+1:Nat):Int)-1<((m+1:Nat):Int):=by omega
 go_enter func138,ntmps138;go_wp2
 go_quiet (fail)
 go_wp2;go_ret;exact⟨by simp,_,rfl⟩
theorem uI(R g n cap:Nat)(fv:al)(w:aa)(hR:w.heap[R]? =some (Gs fv (.slice (eb g) n cap)))(f:0<n)(d:n<=cap)(hm:cap<=maxLen):
  cl 140 #[Pt R] w λe w'=>e=.returned (.tuple #[])/\w'.heap[R]? =some (Gs fv (.slice (eb g) (n-1) cap))/\aB (λk=>k=R) w w':=by
 have c1:=ae hR 1;have c:=ah hR 1;simp at c1;have b:=ag hR;clear hR;unfold maxLen at hm;obtain⟨m,rfl⟩:∃m,n=m+1:=⟨n-1,by omega⟩;have h:(0:Int)<=((m+1:Nat):Int)-1:=by omega
 have i:((m+1:Nat):Int)-1<=(cap:Int):=by omega
 go_enter func140,ntmps140;go_wp2;go_region
 all_goals
  go_end0
  exact⟨rfl,TH b.out,((TU (λk=>k=R) w).setCell (dq R 1) _ (λ_=>rfl)).drew⟩
def iL:List (Bool×List D)->List (al×a7)->a7
 |(q,_)::os,(v,_)::is=>.bool q::v::iL os is
 |_,_=>[]
def b8(w:aa)(B:Nat):Nat->List (Bool×List D)->List (al×a7)->Prop
 |_,[],[]=>True
 |k,(_,ds)::os,(v,vs)::is=>bT B w v vs/\cH w (20-k) vs ds/\b8 w B (k+1) os is
 |_,_,_=>False
def AZ(a b:al):Prop:=∀g,a.ownBlock=some g->b.ownBlock=some g->False
structure fV(w:aa)(R B:Nat)(aH:List D)(opens:List (Bool×List D))(a b:al)(fs:a7)(its:List (al×a7)):Prop where
 hR:w.heap[R]? =some (Gs a b)
 hlt:R<B
 hf:bT B w a fs
 hfi:cH w 21 fs aH
 ho:w.ownsRow B 250 2 b its.length (iL opens.reverse its)
 hits:b8 w B 0 opens.reverse its
 ap:(a::its.map Prod.fst).Pairwise AZ
 sp:qh w B (fs++its.flatMap Prod.snd) w.heap.size
theorem b8.length{w:aa}:∀{k:Nat} {os:List (Bool×List D)} {is:List (al×a7)},b8 w B k os is->os.length=is.length
 |_,[],[],_=>rfl
 |k,(_,_)::os,(_,_)::is,h=>by simp[b8.length h.2.2]
 |_,[],_::_,h=>h.elim
 |_,_::_,[],h=>by cases ‹_×_›;exact h.elim
theorem b8.snoc{w:aa}:∀{k:Nat} {os:List (Bool×List D)} {is:List (al×a7)} {q:Bool} {ds:List D} {v:al} {vs:a7},b8 w B k os is->bT B w v vs->cH w (20-(k+os.length)) vs ds->b8 w B k (os++[(q,ds)]) (is++[(v,vs)])
 |k,[],[],q,ds,v,vs,_,h1,h2=>⟨h1,h2,trivial⟩
 |k,(_,_)::os,(_,_)::is,q,ds,v,vs,h,h1,h2=>⟨h.1,h.2.1,b8.snoc h.2.2 h1 (by rw[show k+1+os.length=k+((_::os:List (Bool×List D))).length from by simp;omega];exact h2)⟩
 |_,[],_::_,_,_,_,_,h,_,_=>h.elim
 |_,_::_,[],_,_,_,_,h,_,_=>by cases ‹_×_›;exact h.elim
theorem b8.last{w:aa}:∀{k:Nat} {os:List (Bool×List D)} {o:Bool×List D} {is:List (al×a7)},b8 w B k (os++[o]) is->∃is' v vs,is=is'++[(v,vs)]/\b8 w B k os is'/\bT B w v vs/\cH w (20-(k+os.length)) vs o.2
 |k,[],(q,ds),(v,vs)::is,h=>by
  cases is with
  |nil=>exact⟨[],v,vs,rfl,trivial,h.1,h.2.1⟩
  |cons a b=>exact h.2.2.elim
 |k,[],(q,ds),[],h=>h.elim
 |k,(_,_)::os,o,(a,b)::is,h=>by
  obtain⟨is',v,vs,e,h1,h2,h3⟩:=b8.last h.2.2;exact⟨(a,b)::is',v,vs,by rw[e];rfl,⟨h.1,h.2.1,h1⟩,h2,by rw[show k+((_::os:List (Bool×List D))).length=k+1+os.length from by simp;omega];exact h3⟩
 |k,(_,_)::os,o,[],h=>h.elim
theorem jN:∀{os:List (Bool×List D)} {is:List (al×a7)} {q:Bool} {ds:List D} {v:al} {vs:a7},os.length=is.length->iL (os++[(q,ds)]) (is++[(v,vs)])=iL os is++[.bool q,v]
 |[],[],_,_,_,_,_=>rfl
 |(_,_)::os,(_,_)::is,q,ds,v,vs,h=>by
  have:=jN (os:=os) (is:=is) (q:=q) (ds:=ds) (v:=v) (vs:=vs) (by simpa using h);simp only[s6,iL,this]
 |[],_::_,_,_,_,_,h=>by simp at h
 |_::_,[],_,_,_,_,h=>by simp at h
theorem ib:∀{os:List (Bool×List D)} {is:List (al×a7)},os.length=is.length->(iL os is).length=is.length *2
 |[],[],_=>rfl
 |(_,_)::os,(_,_)::is,h=>by
  have:=ib (os:=os) (is:=is) (by simpa using h);simp only[iL,j1,this];omega
 |[],_::_,h=>by simp at h
 |_::_,[],h=>by simp at h
theorem b8.ak{w:aa}(d:aB S w w')(b:aC 205 w w'):∀{k:Nat} {os:List (Bool×List D)} {is:List (al×a7)},b8 w B k os is->(∀x∈is,∀g,x.1.ownBlock=some g->¬S g)->b8 w' B k os is
 |_,[],[],_,_=>trivial
 |k,(_,_)::os,(v,vs)::is,h,c=>⟨aq h.1 d (λg f=>c (v,vs) (by simp) g f),cH.ak b _ _ _ h.2.1,b8.ak d b h.2.2 (λx i=>c x (by simp[i]))⟩
 |_,[],_::_,h,_=>h.elim
 |_,_::_,[],h,_=>by cases ‹_×_›;exact h.elim
theorem fg{w:aa}{size:Nat}{v:al}{c:bc}{fz:Nat×Nat}(h:w.ownsRow base e size v n xs)(b:v.ownBlock=some k)(i:w.heap[k]? =some (Obj.cells c e' fz)):e'=e:=by
 rcases h.2 with⟨d,_⟩|⟨m,cap,l,d,hb,f,r⟩
 .rw[d] at b;cases b
 .rw[d] at b;cases b;rw[i] at f;cases f;rfl
theorem b8.rows{w:aa}:∀{k:Nat} {os:List (Bool×List D)} {is:List (al×a7)},b8 w B k os is->∀x∈is,bT B w x.1 x.2
 |_,[],[],_=>λx b=>absurd b (by simp)
 |k,(_,_)::os,(v,vs)::is,h=>λx b=>by
  rcases RD.1 b with rfl|b
  .exact h.1
  .exact b8.rows h.2.2 x b
 |_,[],_::_,h=>h.elim
 |_,_::_,[],h=>by cases ‹_×_›;exact h.elim
structure dj(R B:Nat)(w w':aa):Prop where
 upd:aB (λk=>k=R\/B<=k) w w'
 keeps:KeepsOthers w w'
 piece:∀(k:Nat) (c:bc) (f:Nat×Nat),w.heap[k]? =some (Obj.cells c 128 f)->w'.heap[k]? =some (Obj.cells c 128 f)
theorem dj.trans{b c:aa}(h:dj R B a b)(k:dj R B b c):dj R B a c:=⟨h.upd.trans k.upd (λ_ _ h=>h),h.keeps.trans k.keeps,λj x f d=>k.piece j x f (h.piece j x f d)⟩
theorem dj.aT{w:aa}(h:aB S w w')(hS:∀k,S k->(k=R\/B<=k)/\∃c e f,w.heap[k]? =some (Obj.cells c e f)/\e≠128):dj R B w w':=
 ⟨h.mono (λk b=>(hS k b).1),⟨h.size,λk o b ho=>h.at b (λl=>by obtain⟨_,c,e,f,d,_⟩:=hS k l;rw[b] at d;cases d;cases ho)⟩,
  λk x f b=>h.at b (λl=>by obtain⟨_,c,e,m,d,i⟩:=hS k l;rw[b] at d;cases d;exact i rfl)⟩
theorem dj.aj{w:aa}(h:Below w.heap.size w w'):dj R B w w':=dj.aT (TW (λ_=>False) h) (λ_ h=>h.elim)
theorem dj.refl(R B:Nat)(w:aa):dj R B w w:=dj.aj (fL _ _)
theorem gI{w:aa}{size:Nat}{v:al}(h:w.ownsRow base e size v n xs)(i:e≠128)(b:v.ownBlock=some k):∃c e f,w.heap[k]? =some (Obj.cells c e f)/\e≠128:=by
 rcases h.2 with⟨d,_⟩|⟨o,cap,m,d,hb,l,r⟩
 .rw[d] at b;cases b
 .rw[d] at b;cases b;exact⟨_,_,_,l,i⟩
theorem vT{w:aa}(h:w.heap[R]? =some (Gs fv ov))(e:k=R):∃c e f,w.heap[k]? =some (Obj.cells c e f)/\e≠128:=by subst e;exact⟨_,_,_,h,by decide⟩
theorem Qc:(prog.info? 250).map (λi=>(i.zero,i.size,i.bytes))=some (some (.agg #[.bool false,.slice none 0 0]),2,32):=by kernel_rfl
theorem fV.below{w:aa}{aH:List D}(h:fV w R B aH opens fv ov fs its)(hb:Below w.heap.size w w'):fV w' R B aH opens fv ov fs its:=by
 have b:=TW (λ_=>False) hb;have c:=TX (T:=205) hb;exact⟨b.at h.hR (λh=>h),h.hlt,aq h.hf b (λ_ _ h=>h),cH.ak c _ _ _ h.hfi,aq h.ho b (λ_ _ h=>h),h.hits.ak b c (λ_ _ _ _ h=>h),h.ap,h.sp.ak (lG.ak c) hb.size⟩
theorem NV{w:aa}{b:Nat}{fz:Nat×Nat}(h:w.heap[b]? =some (Obj.cells #[a0,a1] T fz)):∀(j:Nat) u,[a0,a1][j]? =some u->w.cell? (Addr.add (dq b 0) j)=some u:=PL h
theorem Hc{w:aa}{aH:List D}{q:Bool}(h:fV w R B aH opens fv ov fs its)(z:aB (λk=>ov.ownBlock=some k) w w1)(ho:w1.ownsRow B 250 2 (.slice (eb g) (its.length+1) cap) (its.length+1) (iL opens.reverse its++[.bool q,.slice none 0 0]))(W':aa)(C:W'=w1.setCell (dq R 1) (.slice (eb g) (its.length+1) cap)):
  fV W' R B aH ((q,[])::opens) fv (.slice (eb g) (its.length+1) cap) fs (its++[(.slice none 0 0,[])])/\dj R B w W':=by
 have o:=z.at h.hR (λf=>by have:=(ar h.ho f).1;have:=h.hlt;omega);have m:aB (λk=>k=R) w1 W':=by rw[C];exact(TU (λk=>k=R) w1).setCell (dq R 1) _ (λ_=>rfl)
 have t:aC 205 w w1:=T1 z (λk c f G=>by have:=fg h.ho f G;exact absurd this (by decide));have y:aC 205 w1 W':=T1 m (by intro k c f;subst f;rw[o];simp[Gs]);have l:=t.trans y;have i:aB (λk=>k=R\/ov.ownBlock=some k) w W':=(z.mono (λj s=>RA s)).trans m (λj _ s=>RP s);have p:∀(v:al) (vs:a7),bT B w v vs->∀k,v.ownBlock=some k->¬(k=R\/ov.ownBlock=some k):=by
  intro v vs E k d f;rcases f with rfl|f
  .have:=(ar E d).1;have:=h.hlt;omega
  .rcases E.2 with⟨A,_⟩|⟨J,cap',I,A,hb,F,r⟩
   .rw[A] at d;cases d
   .rw[A] at d;cases d;have:=fg h.ho f F;exact absurd this (by decide)
 have H:=h.hits.length;refine⟨⟨?_,h.hlt,aq h.hf i (λk d=>p fv fs h.hf k d),cH.ak l _ _ _ h.hfi,?_,?_,?_,by rw[RN];simpa using h.sp.ak (lG.ak l) i.size⟩,dj.aT i (λk d=>d.elim (λe=>⟨RP e,vT h.hR e⟩) (λe=>⟨RA (ar h.ho e).1,gI h.ho (by decide) e⟩))⟩
 .rw[C];exact TH o
 .rw[RF,jN H,ga];refine aq ho m (λk d f=> ?_);subst f;have:=(ar ho d).1;have:=h.hlt;omega
 .rw[RF];refine b8.snoc (h.hits.ak i l (λx f k d=>p x.1 x.2 (h.hits.rows x f) k d)) (bT.nil _ _) trivial
 .rw[s8,<-s6];rw[SK];exact⟨h.ap,by simp,λa _ b hb g h1 h2=>by simp at hb;subst hb;cases h2⟩
theorem ud(w:aa)(R B:Nat)(aH:List D)(opens:List (Bool×List D))(fv ov:al)(fs:a7)(its:List (al×a7))(q:Bool)(h:fV w R B aH opens fv ov fs its)(hB:B<=w.heap.size)(H:opens.length<=20):
  cl 84 #[Pt R,.bool q] w λe w'=>
   (20<=opens.length->e=.returned (Jn 3)/\w'=w)/\
   (opens.length<20->e=.returned (Jn 0)/\∃x its',fV w' R B aH ((q,[])::opens) fv x fs its'/\dj R B w w'):=by
 have M:=h.hits.length;simp only[Sy] at M;obtain⟨a,cap,N,K,L,_⟩:=ay h.ho;subst N;have c1:=ae h.hR 1;have G:=ah h.hR 1;simp at c1;have p:=ag h;by_cases y:20<=opens.length
 .have Q:(20:Int)<=(its.length:Int):=by omega
  clear h;go_enter func84,ntmps84;go_wp2;go_ret;exact⟨λ_=>⟨rfl,rfl⟩,λh=>absurd h (by omega)⟩
 .have Q:¬(20:Int)<=(its.length:Int):=by omega
  have J:=ai h.hR;have I:=h.hlt;obtain⟨P,d,l,m,o⟩:=sv Qc;have r:=ag (ei d (ei l (ei m o)));clear d l m o h;go_enter func84,ntmps84;go_wp2_with (at_builtin;refine nl _ rfl (.tmp 15) (.tmp 18) 120 rfl B 250 P (.agg #[.bool false,.slice none 0 0]) 2 32 underlying120 r.out.1 r.out.2.1 r.out.2.2.1 r.out.2.2.2 rfl (by decide) _ its.length (iL opens.reverse its) rfl (p.out.ho.alloc _) (dq w.heap.size 0) 1 1 [.bool q,.slice none 0 0] rfl rfl (NV (fK _ _)) (by intro u A;simp at A;rcases A with rfl|rfl<;>rfl) (by decide) (by unfold maxLen;omega) (by omega) (by simp;omega) (w.heap.size+1) (by simp) ?_);intro U cap' w1 c b s z;have i:=bC b;have f:=i.at p.out.hR (λO=>by have:=(ar p.out.ho O).1;omega);have F:=ae f 1;have G:=ah f 1;simp at F;have C:=ag c;have E:=ag i;clear c b i f s c1;go_wp2;go_ret;refine⟨λh=>absurd h (by omega),λ_=>⟨rfl,?_⟩⟩;obtain⟨t,v⟩:=Hc (q:=q) p.out E.out C.out _ rfl;exact⟨_,_,t,v⟩
def gQ(aH:List D):List (Bool×List D)->D->List D×List (Bool×List D)
 |[],d=>(aH++[d],[])
 |(true,_)::os,d=>gQ aH os (ju [sym sr,d])
 |(false,ds)::os,d=>(aH,(false,ds++[d])::os)
theorem wX{w:aa}{size:Nat}(h:w.ownsRow B e size (.slice (eb g) (n+1) cap) (n+1) (xs++ys))(d:xs.length=n *size):w.ownsRow B e size (.slice (eb g) n cap) n xs:=by
 refine⟨d,?_⟩;rcases h.2 with⟨b,_⟩|⟨l,cap',c,b,hb,i,h1,h2,h3,f⟩
 .cases b
 .cases b;refine RA ⟨g,cap,c,rfl,hb,i,by omega,h2,h3,?_⟩;have:(c.toList.take ((n+1) *size)).take (n *size)=xs:=by rw[f,List.take_left' d]
  rw[List.take_take] at this;rw[<-this];congr 1;rw[SN];exact Ta _ (by omega)
theorem fV.inner{w:aa}{aH:List D}{q:Bool}(h:fV w R B aH ((q,ds)::os) fv ov fs its):
  ∃g cap is' v vs,its=is'++[(v,vs)]/\ov=.slice (eb g) (os.length+1) cap/\is'.length=os.length/\os.length+1<=cap/\cap<=maxLen/\B<=g/\g<w.heap.size/\
   Cl w g (os.length *2) (.bool q)/\Cl w g (os.length *2+1) v/\w.frozen? (dq g (os.length *2+1))=false/\b8 w B 0 os.reverse is'/\bT B w v vs/\cH w (20-os.length) vs ds/\
   w.ownsRow B 250 2 (.slice (eb g) (os.length+1) cap) (os.length+1) (iL os.reverse is'++[.bool q,v]):=by
 have hits:=h.hits;rw[RF] at hits;obtain⟨is',v,vs,e,h1,h2,h3⟩:=hits.last;subst e;have b:=h1.length;simp only[Sy] at b;have ho:=h.ho;rw[RF,jN (by simpa using b),ga,Ix,<-b] at ho;have c:(iL os.reverse is').length=os.length *2:=by rw[ib (by simpa using b),<-b]
 obtain⟨g,cap,d,hb,o,f,i,m⟩:=db ho (by omega);subst d;refine⟨g,cap,is',v,vs,rfl,rfl,b.symm,f,i,hb,o,m _ _ ?_,m _ _ ?_,?_,h1,h2,by simpa using h3,ho⟩
 .rw[s7 (by omega),c];simp
 .rw[s7 (by omega),c];simp
 .rcases ho.2 with⟨d,_⟩|⟨s,cap',p,d,hb,l,r⟩
  .cases d
  .cases d;exact ah l _
theorem zI{w:aa}{aH:List D}{q:Bool}{v:al}(h:fV w R B aH ((q,ds)::os) fv (.slice (eb g) (os.length+1) cap) fs (is'++[(v,vs)]))(o:is'.length=os.length)(hR:W'.heap[R]? =some (Gs fv (.slice (eb g) os.length cap)))(l:aB (λk=>k=R) w W'):fV W' R B aH os fv (.slice (eb g) os.length cap) fs is':=by
 obtain⟨y,cap',is2,v2,vs2,e,s,p,_,_,_,_,_,_,_,i,_,_,ho⟩:=h.inner;obtain⟨rfl,e2⟩:=Tr e rfl;cases e2;cases s;have b:aC 205 w W':=T1 l (by intro k c d;subst d;rw[h.hR];simp[Gs]);have f:∀(v:al) {e n:Nat} {xs:a7} {z:Nat},w.ownsRow B e z v n xs->∀k,v.ownBlock=some k->¬k=R:=by
  intro v e n xs z r k b d;subst d;have:=(ar r b).1;have:=h.hlt;omega
 refine⟨hR,h.hlt,aq h.hf l (f fv h.hf),cH.ak b _ _ _ h.hfi,?_,i.ak l b (λx d=>f x.1 (i.rows x d)),?_,?_⟩
 .rw[o];refine aq (wX ho (by rw[ib (by simpa using o.symm),o])) l (λk b d=> ?_);have t:g=R:=by cases b;exact d
  have:=(ar ho (show Value.ownBlock _=some g from rfl)).1;have:=h.hlt;omega
 .have:=h.ap;rw[s8,<-s6,SK] at this;exact this.1
 .have:=h.sp;rw[RN,<-RH] at this;obtain⟨m,h1,h2⟩:=this.split;exact h1.ak (lG.ak b) (ku h2.le l.size)
theorem eo{w:aa}(h1:w.ownsRow B1 e1 z1 v1 n1 xs1)(h2:w.ownsRow B2 e2 z2 v2 n2 xs2)(d:e1≠e2)(b:v1.ownBlock=some k)(c:v2.ownBlock=some k):False:=by
 rcases h1.2 with⟨f,_⟩|⟨l,cap',i,f,hb,h,r⟩
 .rw[f] at b;cases b
 .rw[f] at b;cases b;exact d (fg h2 c h)
theorem L0{w:aa}{aH:List D}{d:D}(h:fV w R B aH [] fv ov fs [])(y:fs.length=aH.length)(x:IV w 21 u d)(t:qh w B (fs++[u]) w.heap.size)(p:aB (λk=>fv.ownBlock=some k) w w1)(ho:w1.ownsRow B 81 1 (.slice (eb g) (fs.length+1) cap) (fs.length+1) (fs++[u]))(W':aa)(v:W'=w1.setCell (dq R 0) (.slice (eb g) (fs.length+1) cap)):
  fV W' R B (aH++[d]) [] (.slice (eb g) (fs.length+1) cap) ov (fs++[u]) []/\dj R B w W':=by
 have m:=p.at h.hR (λf=>by have:=(ar h.hf f).1;have:=h.hlt;omega);have b:aB (λk=>k=R) w1 W':=by rw[v];exact(TU (λk=>k=R) w1).setCell (dq R 0) _ (λ_=>rfl)
 have r:aC 205 w w1:=T1 p (λk c f z=>by have:=fg h.hf f z;exact absurd this (by decide));have s:aC 205 w1 W':=T1 b (by intro k c f;subst f;rw[m];simp[Gs]);have l:=r.trans s;have o:dj R B w W':=dj.aT (S:=λk=>k=R\/fv.ownBlock=some k) ((p.mono (λj q=>RA q)).trans b (λj _ q=>RP q)) (λk i=>i.elim (λe=>⟨RP e,vT h.hR e⟩) (λe=>⟨RA (ar h.hf e).1,gI h.hf (by decide) e⟩));refine⟨⟨?_,h.hlt,?_,cH.append (cH.ak l _ _ _ h.hfi) ⟨IV.ak l _ _ _ x,trivial⟩,?_,trivial,by simp,by simpa using t.ak (lG.ak l) o.upd.size⟩,o⟩
 .rw[v];exact TH m
 .unfold bT;rw[ga];refine aq ho b (λk i f=> ?_);have:=(ar ho i).1;have:=h.hlt;omega
 .have h1:=aq h.ho p (λk i f=>eo h.ho h.hf (by decide) i f);refine aq h1 b (λk i f=> ?_);have:=(ar h.ho i).1;have:=h.hlt;omega
theorem L8{w:aa}{aH:List D}{q:Bool}{v:al}{d:D}(h:fV w R B aH ((q,ds)::os) fv (.slice (eb g) (os.length+1) cap) fs (is'++[(v,vs)]))(K:is'.length=os.length)(hd:IV w (20-os.length) u d)(h0:qh w B (fs++(is'++[(v,vs)]).flatMap Prod.snd++[u]) w.heap.size)(L:aB (λk=>v.ownBlock=some k) w w1)(p:v.ownBlock=some g2\/w.heap.size<=g2)(ho:w1.ownsRow B 81 1 (.slice (eb g2) (vs.length+1) cap2) (vs.length+1) (vs++[u]))(W':aa)(hW:W'=w1.setCell (dq g (os.length *2+1)) (.slice (eb g2) (vs.length+1) cap2)):
  fV W' R B aH ((q,ds++[d])::os) fv (.slice (eb g) (os.length+1) cap) fs (is'++[(.slice (eb g2) (vs.length+1) cap2,vs++[u])])/\dj R B w W':=by
 obtain⟨g',cap',isx,v2,vs2,e,hv,h4,_,_,M,_,_,_,_,C,i,J,s⟩:=h.inner;obtain⟨rfl,e2⟩:=Tr e rfl;cases e2;cases hv;have H:=h.ap;rw[s8,<-s6,SK] at H;obtain⟨I,_,l⟩:=H;have o:=aq s L (λk F f=>eo s i (by decide) F f);have h3:=(o.stored (os.length *2+1) (.slice (eb g2) (vs.length+1) cap2)).1;have t:aB (λk=>k=g) w1 W':=by rw[hW];exact(TU (λk=>k=g) w1).setCell (dq g (os.length *2+1)) _ (λ_=>rfl)
 have N:=L.at h.hR (λf=>by have:=(ar i f).1;have:=h.hlt;omega);have O:=t.at N (by have:=h.hlt;omega);have r:(Value.slice (eb g) (os.length+1) cap).ownBlock=some g:=rfl;have X:aC 205 w w1:=T1 L (λk c f W=>by have:=fg i f W;exact absurd this (by decide));have Y:aC 205 w1 W':=T1 t (λk c f W=>by subst f;have:=fg o r W;exact absurd this (by decide));have m:=X.trans Y;have y:aB (λk=>v.ownBlock=some k\/k=g) w W':=(L.mono (λj z=>RP z)).trans t (λj _ z=>RA z);have A:∀(a:al) (G:a7),bT B w a G->AZ a v->∀k,a.ownBlock=some k->¬(v.ownBlock=some k\/k=g):=by
  intro a G E Q k F f;rcases f with f|rfl
  .exact Q k F f
  .exact eo s E (by decide) r F
 have U:AZ fv v:=l fv (by simp) v (by simp);refine⟨⟨O,h.hlt,aq h.hf y (A fv fs h.hf U),cH.ak m _ _ _ h.hfi,?_,?_,?_,by simpa[RN] using h0.ak (lG.ak m) y.size⟩,dj.aT y (λj z=> ?_)⟩
 .rw[RF,jN (by simpa using K.symm),ga,Ix,K,hW];have V:(iL os.reverse is').length=os.length *2:=by rw[ib (by simpa using K.symm),K]
  rw[show iL os.reverse is'++[Value.bool q,.slice (eb g2) (vs.length+1) cap2]=(iL os.reverse is'++[Value.bool q,v]).set (os.length *2+1) (.slice (eb g2) (vs.length+1) cap2) from by
   rw[R1 _ _ (by omega),V];simp]
  exact h3
 .rw[RF];refine b8.snoc (C.ak y m (λx f=>A x.1 x.2 (C.rows x f) (l x.1 (by simp;exact RA ⟨_,f⟩) v (by simp)))) ?_ ?_
  .unfold bT;rw[ga];refine aq ho t (λk F f=> ?_);subst f;exact eo o ho (by decide) r F
  .simp only[Sy,C4];exact cH.append (cH.ak m _ _ _ J) ⟨IV.ak m _ _ _ hd,trivial⟩
 .rw[s8,<-s6,SK];refine⟨I,by simp,λa E b hb k h1 h2=> ?_⟩;simp only[v6,SS,Se] at hb;subst hb;have Z:g2=k:=by simpa[Value.ownBlock] using h2
  subst Z;rcases p with p|p
  .exact l a E v (by simp) g2 h1 p
  .have:∃G,bT B w a G:=by
    rcases RD.1 E with rfl|E
    .exact⟨fs,h.hf⟩
    .obtain⟨x,f,rfl⟩:=TG.1 E;exact⟨x.2,C.rows x f⟩
   obtain⟨G,P⟩:=this;have:=(ar P h1).2;omega
 .rcases z with z|rfl
  .exact⟨RA (ar i z).1,gI i (by decide) z⟩
  .exact⟨RA M,gI s (by decide) r⟩
end Go.Proofs.YtlobegpjenabaaaGreatDoor
