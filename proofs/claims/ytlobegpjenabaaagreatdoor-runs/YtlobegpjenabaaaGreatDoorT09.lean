import Derived.Test.YtlobegpjenabaaaGreatDoorT08
import Derived.Maps.OwnSet
import Derived.Maps.OwnOps
import Derived.Deep.RegionLaw
namespace Go.Proofs.YtlobegpjenabaaaGreatDoor
open Go.RowKit Tryz
set_option linter.unusedSimpArgs false
set_option linter.unusedVariables false
set_option linter.defProp false
set_option maxRecDepth 100000
set_option maxHeartbeats 4000000
def fy:=@List.getElem?_cons_zero
def fD:=@List.getElem?_toArray
def km:=@List.getElem?_cons_succ
def s5:=@List.length_set
def v7:=@Nat.zero_mul
def RI:=@Nat.lt_of_le_of_lt
def R2:=@step_append_lies
def Sb:=@List.idxOf_cons
def Sk:=@Nat.le_of_lt
def Sm:=@List.set_cons_succ
def S0:=@List.take_set
def TB:=@Bool.beq_comm
variable {w' w1 a w2:aa} {B T s n T' o Tb m k g i cap B':Nat} {u u0 u1 u2 u3 u5 cv e kv:al} {xs x1 x3 us:a7} {Dm Dm':DataW Unit} {op:Int} {ns ns':List au}
open Go.RowKit Go.Maps
def bO(s:au):al:=.string ⟨s.toArray⟩
theorem Ee(z:ao):bO z.data.toList=.string z:=by cases z;rfl
def gW:List (Int×Int)->a7
 |[]=>[]
 |p::r=>.int .i64 p.1:: .int .i64 p.2::gW r
theorem mV:∀(a b:List (Int×Int)),gW (a++b)=gW a++gW b
 |[],b=>rfl
 |p::r,b=>by simp[gW,mV r b]
theorem ur:∀(l:List (Int×Int)) (i:Nat) (n:Int),i<l.length->gW (l.set i ((l.getD i (0,0)).1,n))=(gW l).set (i *2+1) (Jn n)
 |[],i,n,h=>absurd h (by simp)
 |p::r,0,n,h=>by simp[gW]
 |p::r,i+1,n,h=>by
  have:=ur r i n (by simpa using h);simp only[Sm,gW,RZ] at *;rw[this,show(i+1) *2=(i *2+1)+1 by omega,Sm]
def CV(w:aa):Option D->al->Prop
 |none,v=>v=.iface 259 (.agg #[])
 |some d,v=>∃n,IV w n v d
def Es(w:aa):List (Option D)->a7->Prop
 |[],[]=>True
 |c::cs,v::vs=>CV w c v/\Es w cs vs
 |_,_=>False
theorem CV.ak{w:aa}(k:aC 205 w w'):∀(c:Option D) (v:al),CV w c v->CV w' c v
 |none,v,h=>h
 |some d,v,⟨n,h⟩=>⟨n,IV.ak k _ _ _ h⟩
theorem Es.ak{w:aa}(k:aC 205 w w'):∀(c:List (Option D)) (v:a7),Es w c v->Es w' c v
 |[],[],_=>trivial
 |[],_::_,h=>h.elim
 |_::_,[],h=>h.elim
 |c::cs,v::vs,h=>⟨h.1.ak k,Es.ak k cs vs h.2⟩
theorem Es.snoc{w:aa}:∀(cs:List (Option D)) (vs:a7) (c:Option D) (v:al),Es w cs vs->CV w c v->Es w (cs++[c]) (vs++[v])
 |[],[],c,v,_,h=>⟨h,trivial⟩
 |[],_::_,_,_,h,_=>h.elim
 |_::_,[],_,_,h,_=>h.elim
 |c::cs,v::vs,b,f,h,d=>⟨h.1,Es.snoc cs vs b f h.2 d⟩
def vG(w:aa)(B:Nat):List (au×List Nat×Nat)->a7->Prop
 |[],[]=>True
 |l::ls,a::b::c::vs=>(a=bO l.1/\w.ownsRow B 3 1 b l.2.1.length (l.2.1.map λ(k:Nat)=>Value.int .i64 k)/\c=.int .i64 l.2.2)/\vG w B ls vs
 |_,_=>False
theorem aA{w:aa}(f:aC T w w')(h:w.ownsRow B T s u n xs):w'.ownsRow B T s u n xs:=by
 obtain⟨h1,h2⟩:=h;refine⟨h1,?_⟩;rcases h2 with h2|⟨g,cap,b,j,c,d,r⟩
 .exact .inl h2
 .exact .inr ⟨g,cap,b,j,c,f _ _ d,r⟩
theorem aM{w:aa}(l:w.ownsRow B T s u n xs)(p:aB (λk=>u.ownBlock=some k) w w1)(d:T'≠T):aC T' w w1:=
 T1 p λk c b h=>by
  rcases l.2 with⟨f,_⟩|⟨g,cap,q,f,t,j,r⟩
  .rw[f] at b;cases b
  .rw[f] at b;cases b;rw[j] at h;cases h;exact d rfl
theorem aK{w:aa}{b:Nat}{c:bc}{fz:Nat×Nat}{v:al}(hb:w.heap[b]? =some (Obj.cells c Tb fz))(d:T'≠Tb):aC T' w (w.setCell (dq b o) v):=λx y h=>by
 rw[R6]
 .exact h
 .intro e;have e:x=b:=e;subst e;rw[hb] at h;cases h;exact d rfl
theorem bm{w:aa}(h:w.ownsMap prog 9 (plainElem (H:=Unit) prog 3) m n Dm)(c:w'.heap[m]? =w.heap[m]?):w'.ownsMap prog 9 (plainElem (H:=Unit) prog 3) m n Dm:=by
 obtain⟨es,b,h1,h2⟩:=h;exact⟨es,b,by rw[c];exact h1,h2⟩
theorem jS{w:aa}(f:w.ownsRow B T s u n xs)(j:aB (λk=>u.ownBlock=some k) w w1)(h:w.ownsMap prog 9 (plainElem (H:=Unit) prog 3) m k Dm):w1.heap[m]? =w.heap[m]?:=by
 obtain⟨es,l,h1,h2⟩:=h;refine j.block m (ai h1) λb=> ?_;rcases f.2 with⟨c,_⟩|⟨g,cap,p,c,q,d,r⟩
 .rw[c] at b;cases b
 .rw[c] at b;cases b;rw[d] at h1;cases h1
theorem TP{w:aa}{b:Nat}{c:bc}{fz:Nat×Nat}{v:al}(hb:w.heap[b]? =some (Obj.cells c Tb fz))(h:w.ownsMap prog 9 (plainElem (H:=Unit) prog 3) m k Dm):(w.setCell (dq b o) v).heap[m]? =w.heap[m]?:=by
 obtain⟨es,d,h1,h2⟩:=h;rw[R6];intro e;have e:m=b:=e;subst e;rw[hb] at h1;cases h1
theorem vG.ak{w:aa}(k:aC 3 w w'):∀(l:List (au×List Nat×Nat)) (v:a7),vG w B l v->vG w' B l v
 |[],[],_=>trivial
 |[],_::_,h=>h.elim
 |_::_,[],h=>h.elim
 |_::_,[_],h=>h.elim
 |_::_,[_,_],h=>h.elim
 |l::ls,a::b::c::vs,h=>⟨⟨h.1.1,aA k h.1.2.1,h.1.2.2⟩,vG.ak k ls vs h.2⟩
theorem vG.snoc{w:aa}:∀(ls:List (au×List Nat×Nat)) (vs:a7) (l:au×List Nat×Nat) (a b c:al),vG w B ls vs->(a=bO l.1/\w.ownsRow B 3 1 b l.2.1.length (l.2.1.map λ(k:Nat)=>Jn k)/\c=Jn l.2.2)->vG w B (ls++[l]) (vs++[a,b,c])
 |[],[],l,a,b,c,_,h=>⟨h,trivial⟩
 |[],_::_,_,_,_,_,h,_=>h.elim
 |_::_,[],_,_,_,_,h,_=>h.elim
 |_::_,[_],_,_,_,_,h,_=>h.elim
 |_::_,[_,_],_,_,_,_,h,_=>h.elim
 |l::ls,a::b::c::vs,l',a',d,f,h,j=>⟨h.1,vG.snoc ls vs l' a' d f h.2 j⟩
theorem vG.entry{w:aa}:∀(ls:List (au×List Nat×Nat)) (vs:a7) (i n:Nat),i<ls.length->vG w B ls vs->vG w B (ls.set i ((ls.getD i ([],[],0)).1,(ls.getD i ([],[],0)).2.1,n)) (vs.set (i *3+2) (Jn n))
 |[],_,i,n,h,_=>absurd h (by simp)
 |_::_,[],_,_,_,h=>h.elim
 |_::_,[_],_,_,_,h=>h.elim
 |_::_,[_,_],_,_,_,h=>h.elim
 |l::ls,a::b::c::vs,0,n,_,h=>by
  simp only[List.set_cons_zero,Sc,v7,C4,Sm];exact⟨⟨h.1.1,h.1.2.1,rfl⟩,h.2⟩
 |l::ls,a::b::c::vs,i+1,n,hi,h=>by
  have:=vG.entry ls vs i n (by simpa using hi) h.2;simp only[Sm,RZ];rw[show(i+1) *3=(i *3+2)+1 by omega];simp only[Sm];exact⟨h.1,this⟩
def tX(a:DataW Unit)(ns:List au):Prop:=
 IsMap a/\∀s:au,Maps.has a (.string s)=ns.contains s/\(ns.contains s=true->a.atKey (.string s) (.lit (.int .i64 0))=.lit (.int .i64 (ns.idxOf s:Nat)))
structure dC(w:aa)(B b:Nat)(st:BS)(u0 u1 u2 u3:al)(m:Nat)(u5:al)(x1 x3 a:a7):Prop where
 hb:B<=b
 hS:w.heap[b]? =some (Obj.cells #[u0,u1,u2,u3,.map (some m),u5] 147 (0,0))
 r0:w.ownsRow B 174 2 u0 st.is.length (gW st.is)
 r1:w.ownsRow B 81 1 u1 st.cs.length x1
 c1:Es w st.cs x1
 r2:w.ownsRow B 9 1 u2 st.ns.length (st.ns.map bO)
 r3:w.ownsRow B 213 3 u3 st.ls.length x3
 l3:vG w B st.ls x3
 r5:w.ownsRow B 83 1 u5 a.length a
 e5:ii w (λg=>g<B) st.bs a
 hm:B<=m
 mp:∃c,w.ownsMap prog 9 (plainElem (H:=Unit) prog 3) m st.ns.length c/\tX c st.ns
def Bd(w:aa)(B b:Nat)(st:BS):Prop:=st.ls.length=st.bs.length/\∃u0 u1 u2 u3 m u5 x1 x3 a,dC w B b st u0 u1 u2 u3 m u5 x1 x3 a
theorem dC.ak{w:aa}{b:Nat}{st:BS}(h:dC w B b st u0 u1 u2 u3 m u5 x1 x3 us)(hb:Below B w w')(f:aC 174 w w')(k1:aC 81 w w')(k2:aC 9 w w')(k3:aC 213 w w')(j:aC 83 w w')(kb:aC 147 w w')(ki:aC 3 w w')(kp:aC 205 w w')(l:w'.heap[m]? =w.heap[m]?):dC w' B b st u0 u1 u2 u3 m u5 x1 x3 us:=by
 obtain⟨Dm,mp,d⟩:=h.mp;exact⟨h.hb,kb _ _ h.hS,aA f h.r0,aA k1 h.r1,h.c1.ak kp,aA k2 h.r2,aA k3 h.r3,h.l3.ak ki,aA j h.r5,h.e5.imp kp (λg o c ho=>⟨by rw[hb.block g c];exact ho,c⟩),h.hm,Dm,bm mp l,d⟩
theorem dC.le{w:aa}{b:Nat}{st:BS}(h:dC w B b st u0 u1 u2 u3 m u5 x1 x3 us):B<=w.heap.size:=Sk (RI h.hb (ai h.hS))
theorem dC.below{w:aa}{b:Nat}{st:BS}(h:dC w B b st u0 u1 u2 u3 m u5 x1 x3 us)(hb:Below w.heap.size w w'):dC w' B b st u0 u1 u2 u3 m u5 x1 x3 us:=by
 obtain⟨Dm,mp,c⟩:=h.mp;exact h.ak (hb.mono h.le) (TX hb) (TX hb) (TX hb) (TX hb) (TX hb) (TX hb) (TX hb) (TX hb) (hb.block m mp.lt)
theorem Bd.below{w:aa}{b:Nat}{st:BS}(h:Bd w B b st)(hb:Below w.heap.size w w'):Bd w' B b st:=by
 obtain⟨c,u0,u1,u2,u3,m,u5,x1,x3,us,h⟩:=h;exact⟨c,u0,u1,u2,u3,m,u5,x1,x3,us,h.below hb⟩
theorem Bd.le{w:aa}{b:Nat}{st:BS}(h:Bd w B b st):B<=w.heap.size:=by
 obtain⟨c,u0,u1,u2,u3,m,u5,x1,x3,us,h⟩:=h;exact h.le
def BT:List bi:=[174,81,9,213,83,147]
structure dD(B:Nat)(w w':aa):Prop where
 below:Below B w w'
 kp:∀T,BT.contains T=false->aC T w w'
theorem dD.refl(B:Nat)(w:aa):dD B w w:=⟨fL _ _,λ_ _=>TY _⟩
theorem dD.trans{b c:aa}(h:dD B a b)(k:dD B b c):dD B a c:=⟨h.below.trans k.below,λT d=>(h.kp T d).trans (k.kp T d)⟩
theorem dD.drew{b:aa}(h:dD B a b):dD B a b.drew:=⟨h.below.drew,h.kp⟩
theorem dD.new{w:aa}(hB:B<=w.heap.size)(h:Below w.heap.size w w'):dD B w w':=⟨h.mono hB,λ_ _=>TX h⟩
def T3:=@dD.new
theorem dD.row{w:aa}(c:w.ownsRow B T s u n xs)(f:BT.contains T=true)(d:aB (λk=>u.ownBlock=some k) w w1)(hB:B<=w.heap.size):dD B w w1:=
 ⟨d.below hB (by intro k h;exact(ar c h).1),λT' b=>aM c d (λe=>by rw[e,f] at b;cases b)⟩
theorem dD.set{b:Nat}{w:aa}{c:bc}{fz:Nat×Nat}{v:al}(h:dD B w w1)(hS:w1.heap[b]? =some (Obj.cells c T fz))(f:BT.contains T=true)(hb:B<=b):dD B w (w1.setCell (dq b o) v):=
 ⟨h.below.setCell hb _,λT' d=>(h.kp T' d).trans (aK hS (λe=>by rw[e,f] at d;cases d))⟩
theorem dD.map{w:aa}(hm:w.ownsMap prog 9 (plainElem (H:=Unit) prog 3) m n Dm)(hB:B<=m)(d7:B<=w.heap.size)(f:w.grownBy w1 (some m)):dD B w w1:=
 ⟨(fL B w).grown f d7 (λk h=>by cases h;exact hB),λT _ x c b=>by
  obtain⟨es,j,d,_⟩:=hm;rw[f.block x (ai b) (λe=>by cases e;rw[d] at b;cases b)];exact b⟩
theorem dC.Q1{w:aa}{b:Nat}{st:BS}{v:al}{n:Int}(h:dC w B b st u0 u1 u2 u3 m u5 x1 x3 us)(d:aB (λk=>u0.ownBlock=some k) w w1)(q:w1.ownsRow B 174 2 v (st.is.length+1) (gW st.is++[Jn op,Jn n])):
  dC (w1.setCell (dq b 0) v) B b (am st op n) v u1 u2 u3 m u5 x1 x3 us:=by
 have c:=aM h.r0 d (T':=147) (by decide) _ _ h.hS;have f:Below B w (w1.setCell (dq b 0) v):=(d.below h.le (by intro k l;exact(ar h.r0 l).1)).setCell h.hb _;obtain⟨Dm,mp,p⟩:=h.mp;have mp1:=bm mp (jS h.r0 d mp);exact⟨h.hb,TH c,by rw[am,ga,mV];exact aA (aK c (by decide)) q,aA ((aM h.r0 d (by decide)).trans (aK c (by decide))) h.r1,h.c1.ak ((aM h.r0 d (by decide)).trans (aK c (by decide))),aA ((aM h.r0 d (by decide)).trans (aK c (by decide))) h.r2,aA ((aM h.r0 d (by decide)).trans (aK c (by decide))) h.r3,h.l3.ak ((aM h.r0 d (by decide)).trans (aK c (by decide))),aA ((aM h.r0 d (by decide)).trans (aK c (by decide))) h.r5,h.e5.imp ((aM h.r0 d (by decide)).trans (aK c (by decide))) (λg o j ho=>⟨by rw[f.block g j];exact ho,j⟩),h.hm,Dm,bm mp1 (TP c mp1),p⟩
theorem dC.Q2{w:aa}{b:Nat}{st:BS}{v:al}{c:Option D}(h:dC w B b st u0 u1 u2 u3 m u5 x1 x3 us)(f:aB (λk=>u1.ownBlock=some k) w w1)(t:w1.ownsRow B 81 1 v (st.cs.length+1) (x1++[cv]))(p:CV w c cv):
  dC (w1.setCell (dq b 1) v) B b (bM st c) u0 v u2 u3 m u5 (x1++[cv]) x3 us:=by
 have d:=aM h.r1 f (T':=147) (by decide) _ _ h.hS;have j:Below B w (w1.setCell (dq b 1) v):=(f.below h.le (by intro k q;exact(ar h.r1 q).1)).setCell h.hb _;obtain⟨Dm,mp,r⟩:=h.mp;have mp1:=bm mp (jS h.r1 f mp);exact⟨h.hb,TH d,aA ((aM h.r1 f (by decide)).trans (aK d (by decide))) h.r0,by rw[bM,ga];exact aA (aK d (by decide)) t,Es.snoc _ _ _ _ (h.c1.ak ((aM h.r1 f (by decide)).trans (aK d (by decide)))) (p.ak ((aM h.r1 f (by decide)).trans (aK d (by decide)))),aA ((aM h.r1 f (by decide)).trans (aK d (by decide))) h.r2,aA ((aM h.r1 f (by decide)).trans (aK d (by decide))) h.r3,h.l3.ak ((aM h.r1 f (by decide)).trans (aK d (by decide))),aA ((aM h.r1 f (by decide)).trans (aK d (by decide))) h.r5,h.e5.imp ((aM h.r1 f (by decide)).trans (aK d (by decide))) (λg o l ho=>⟨by rw[j.block g l];exact ho,l⟩),h.hm,Dm,bm mp1 (TP d mp1),r⟩
theorem dC.Q3{w:aa}{b:Nat}{st:BS}{v:al}{l:au×List Nat×Nat}{a d:al}(h:dC w B b st u0 u1 u2 u3 m u5 x1 x3 us)(f:aB (λk=>u3.ownBlock=some k) w w1)(x:w1.ownsRow B 213 3 v (st.ls.length+1) (x3++[a,d,e]))(p:a=bO l.1/\w.ownsRow B 3 1 d l.2.1.length (l.2.1.map λ(k:Nat)=>Jn k)/\e=Jn l.2.2):
  dC (w1.setCell (dq b 3) v) B b {st with ls:=st.ls++[l]} u0 u1 u2 v m u5 x1 (x3++[a,d,e]) us:=by
 have c:=aM h.r3 f (T':=147) (by decide) _ _ h.hS;have j:Below B w (w1.setCell (dq b 3) v):=(f.below h.le (by intro k r;exact(ar h.r3 r).1)).setCell h.hb _;obtain⟨Dm,mp,t⟩:=h.mp;have mp1:=bm mp (jS h.r3 f mp);exact⟨h.hb,TH c,aA ((aM h.r3 f (by decide)).trans (aK c (by decide))) h.r0,aA ((aM h.r3 f (by decide)).trans (aK c (by decide))) h.r1,h.c1.ak ((aM h.r3 f (by decide)).trans (aK c (by decide))),aA ((aM h.r3 f (by decide)).trans (aK c (by decide))) h.r2,by rw[ga];exact aA (aK c (by decide)) x,vG.snoc _ _ _ _ _ _ (h.l3.ak ((aM h.r3 f (by decide)).trans (aK c (by decide)))) ⟨p.1,aA ((aM h.r3 f (by decide)).trans (aK c (by decide))) p.2.1,p.2.2⟩,aA ((aM h.r3 f (by decide)).trans (aK c (by decide))) h.r5,h.e5.imp ((aM h.r3 f (by decide)).trans (aK c (by decide))) (λg o q ho=>⟨by rw[j.block g q];exact ho,q⟩),h.hm,Dm,bm mp1 (TP c mp1),t⟩
theorem dC.Q4{w:aa}{b:Nat}{st:BS}{v:al}{k:E}(h:dC w B b st u0 u1 u2 u3 m u5 x1 x3 us)(d:aB (λk=>u5.ownBlock=some k) w w1)(q:w1.ownsRow B 83 1 v (us.length+1) (us++[kv]))(l:EV w (λg=>g<B) k kv):
  dC (w1.setCell (dq b 5) v) B b {st with bs:=st.bs++[k]} u0 u1 u2 u3 m v x1 x3 (us++[kv]):=by
 have c:=aM h.r5 d (T':=147) (by decide) _ _ h.hS;have f:Below B w (w1.setCell (dq b 5) v):=(d.below h.le (by intro k l;exact(ar h.r5 l).1)).setCell h.hb _;obtain⟨Dm,mp,p⟩:=h.mp;have mp1:=bm mp (jS h.r5 d mp);exact⟨h.hb,TH c,aA ((aM h.r5 d (by decide)).trans (aK c (by decide))) h.r0,aA ((aM h.r5 d (by decide)).trans (aK c (by decide))) h.r1,h.c1.ak ((aM h.r5 d (by decide)).trans (aK c (by decide))),aA ((aM h.r5 d (by decide)).trans (aK c (by decide))) h.r2,aA ((aM h.r5 d (by decide)).trans (aK c (by decide))) h.r3,h.l3.ak ((aM h.r5 d (by decide)).trans (aK c (by decide))),by rw[ga];exact aA (aK c (by decide)) q,(h.e5.imp ((aM h.r5 d (by decide)).trans (aK c (by decide))) (λg o j ho=>⟨by rw[f.block g j];exact ho,j⟩)).append (ii.cons (l.imp ((aM h.r5 d (by decide)).trans (aK c (by decide))) (λg o j ho=>⟨by rw[f.block g j];exact ho,j⟩)) ii.nil),h.hm,Dm,bm mp1 (TP c mp1),p⟩
theorem Qa:(prog.info? 174).map (λi=>(i.zero,i.size,i.bytes))=some (some (.agg #[Jn 0,Jn 0]),2,16):=by kernel_rfl
theorem wF{w:aa}{b:Nat}{st:BS}(h:Bd w B b st)(f:st.size<=2199023255552):
  cl 99 #[Pt b] w λe w'=>e=.returned (Jn st.is.length)/\w'=w:=by
 obtain⟨_,u0,u1,u2,u3,m,u5,x1,x3,us,h⟩:=h;obtain⟨a,cap,rfl,c,d,_⟩:=ay h.r0;have c0:=ae h.hS 0;simp only[fD,fy] at c0;have j:st.is.length<=2199023255552:=by unfold BS.size at f;omega
 clear h c d f;go_enter func99,ntmps99;go_wp2;go_ret;exact⟨rfl,rfl⟩
def qe(w:aa)(B b:Nat)(st:BS)(r:Int)(e:bo)(w':aa):Prop:=
 e=.returned (Jn r)/\Bd w' B b st/\dD B w w'
theorem dS{w:aa}{b:Nat}{st:BS}(op n:Int)(h:Bd w B b st)(I:st.size<=1099511627776):
  cl 59 #[Pt b,Jn op,Jn n] w (qe w B b (am st op n) st.is.length):=by
 obtain⟨l,u0,u1,u2,u3,m,u5,x1,x3,us,h⟩:=h;have z:=ag l;clear l;have x:=ag h;have C:=ag h.r0;have d7:B<=w.heap.size:=Sk (RI h.hb (ai h.hS));obtain⟨a,cap,rfl,E,F,_⟩:=ay h.r0;have c0:=ae h.hS 0;simp only[fD,fy] at c0;have N:st.is.length<=1099511627776:=by unfold BS.size at I;omega
 have y:=ag (show(am st op n).size<=2199023255552 from by unfold BS.size at *;simp[am];omega);have M:=ai h.hS;obtain⟨O,hi,p,q,r⟩:=sv Qa;have t:=ag (ei hi (ei p (ei q r)));clear h E F hi p q r I;go_enter func59,ntmps59;go_wp2_with (at_builtin;refine nl _ rfl (.tmp 12) (.tmp 16) 142 rfl B 174 O (.agg #[Jn 0,Jn 0]) 2 16 underlying142 t.out.1 t.out.2.1 t.out.2.2.1 t.out.2.2.2 rfl (by decide) _ st.is.length (gW st.is) rfl (C.out.alloc _) (dq w.heap.size 0) 1 1 [Jn op,Jn n] rfl rfl (NV (fK _ _)) (by intro u K;simp at K;rcases K with rfl|rfl<;>rfl) (by decide) (by unfold maxLen;omega) (by omega) (by simp;omega) (w.heap.size+1) (by simp) ?_);intro H cap2 w1 d c D J;have j:=ag (bC c);have A:=ag d;have f:=aM C.out j.out (T':=147) (by decide) _ _ x.out.hS;have L:=ae f 0;simp only[fD,fy] at L;have f0:=ah f 0;have G:=ag (show Bd (w1.setCell (dq b 0) (.slice (eb H) (st.is.length+1) cap2)) B b (am st op n) from⟨z.out,_,_,_,_,_,_,_,_,_,x.out.Q1 j.out A.out⟩);have v:=ag (show dD B w (w1.setCell (dq b 0) (.slice (eb H) (st.is.length+1) cap2)) from(dD.row C.out rfl j.out d7).set f rfl x.out.hb);clear d c D f;go_wp2_with fail;refine(wF G.out y.out).mono ?_;rintro e w3 ⟨rfl,rfl⟩;rw[show((am st op n).is.length:Int)=(st.is.length:Int)+1 from by simp[am]];go_wp2;go_ret;exact⟨by simp,G.out,v.out⟩
def bx(w:aa)(B b:Nat)(st:BS)(e:bo)(w':aa):Prop:=
 e=.returned (.tuple #[])/\Bd w' B b st/\dD B w w'
theorem dC.cS{w:aa}{b:Nat}{st:BS}(h:dC w B b st (.slice (eb g) st.is.length cap) u1 u2 u3 m u5 x1 x3 us)(hi:i<st.is.length):
  dC (w.setCell (dq g (i *2+1)) (Jn st.is.length)) B b (aF st i) (.slice (eb g) st.is.length cap) u1 u2 u3 m u5 x1 x3 us:=by
 obtain⟨Dm,mp,q⟩:=h.mp;rcases h.r0.2 with⟨j,_⟩|⟨t,cap',r,j,d,c,h1,h2,h3,l⟩
 .cases j
 .cases j;have f:Below B w (w.setCell (dq g (i *2+1)) (Jn st.is.length)):=(fL B w).setCell (p:=(dq g (i *2+1))) d _;refine⟨h.hb,aK c (by decide) _ _ h.hS,?_,aA (aK c (by decide)) h.r1,h.c1.ak (aK c (by decide)),aA (aK c (by decide)) h.r2,aA (aK c (by decide)) h.r3,h.l3.ak (aK c (by decide)),aA (aK c (by decide)) h.r5,h.e5.imp (aK c (by decide)) (λg o d ho=>⟨by rw[f.block g d];exact ho,d⟩),h.hm,Dm,bm mp (TP c mp),q⟩;rw[aF,s5,ur _ _ _ hi];refine⟨by rw[s5];exact h.r0.1,RA ⟨g,cap,_,rfl,d,TH c,h1,h2,by simpa using h3,?_⟩⟩;rw[RY,S0,l]
theorem jV{w:aa}{b:Nat}{st:BS}(i:Nat)(hi:i<st.is.length)(h:Bd w B b st)(y:st.size<=1099511627776):
  cl 98 #[Pt b,Jn i] w (bx w B b (aF st i)):=by
 have j:=ag (wF (h.below (fL w.heap.size w).drew) (by omega));obtain⟨f,u0,u1,u2,u3,m,u5,x1,x3,us,h⟩:=h;have p:=ag f;clear f;obtain⟨a,cap,rfl,D,t,r⟩:=ay h.r0;have H:∃g,a=eb g/\B<=g/\(w.cell? (dq g (i *2+1))).isSome=true/\w.frozen? (dq g (i *2+1))=false/\∃x,w.heap[g]? =some (Obj.cells x 174 (0,0)):=by
  rcases h.r0.2 with⟨z,I⟩|⟨C,cap',x,z,F,v,h1,h2,h3,J⟩
  .omega
  .cases z;exact⟨C,rfl,F,by rw[ae v,RL (by omega)];rfl,ah v _,_,v⟩
 obtain⟨g,rfl,q,c,E,cu0,d⟩:=H;have l:=ag d;clear d;obtain⟨old,c⟩:=Option.isSome_iff_exists.1 c;have c0:=ae h.hS 0;simp only[fD,fy] at c0;have G:st.is.length<=1099511627776:=by unfold BS.size at y;omega
 unfold maxLen at t;have A:=ag (show Bd (w.setCell (dq g (i *2+1)) (Jn st.is.length)).drew B b (aF st i) from
  Bd.below (w:=w.setCell (dq g (i *2+1)) (Jn st.is.length)) ⟨p.out,_,_,_,_,_,_,_,_,_,h.cS hi⟩ (fL _ _).drew)
 clear h r y;go_enter func98,ntmps98;go_region_with (go_at_call 99;refine(j.out).mono ?_;rintro e w' ⟨rfl,rfl⟩)
 all_goals
  refine TT ?_;exact⟨rfl,A.out,((dD.refl B w).set l.out rfl q).drew⟩
theorem pd{w:aa}{b:Nat}{st:BS}(c:Option D)(t:bi)(x:al)(p:CV w c (.iface t x))(h:Bd w B b st)(M:st.size<=1099511627776):
  cl 151 #[Pt b,.iface t x] w (qe w B b (bM st c) st.cs.length):=by
 obtain⟨q,u0,u1,u2,u3,m,u5,x1,x3,us,h⟩:=h;have F:=ag q;have C:=ag p;clear q p;have E:=ag h;have H:=ag h.r1;have d7:B<=w.heap.size:=Sk (RI h.hb (ai h.hS));obtain⟨a,cap,rfl,J,K,_⟩:=ay h.r1;have c0:=ae h.hS 1;simp only[fD,fy,km] at c0;have S:st.cs.length<=1099511627776:=by unfold BS.size at M;omega
 have R:=ai h.hS;obtain⟨U,hi,r,v,y⟩:=sv jQ;have z:=ag (ei hi (ei r (ei v y)));clear h J K hi r v y M;go_enter func151,ntmps151;go_wp2_with (at_builtin;refine nl _ rfl (.tmp 10) (.tmp 12) 76 rfl B 81 U .nilIface 1 16 underlying76 z.out.1 z.out.2.1 z.out.2.2.1 z.out.2.2.2 rfl (by decide) _ st.cs.length x1 rfl (H.out.alloc _) (dq w.heap.size 0) 1 1 [.iface t x] rfl rfl (RW _ _ _) (by intro u O;simp at O;subst O;rfl) (by decide) (by unfold maxLen;omega) (by omega) (by simp;omega) (w.heap.size+1) (by simp) ?_);intro L cap2 w1 f d I N;have l:=ag (bC d);have G:=ag f;have j:=aM H.out l.out (T':=147) (by decide) _ _ E.out.hS;have Q:=ae j 1;simp only[fD,fy,km] at Q;have f0:=ah j 1;have P:=ag (show Bd (w1.setCell (dq b 1) (.slice (eb L) (st.cs.length+1) cap2)) B b (bM st c) from⟨F.out,_,_,_,_,_,_,_,_,_,E.out.Q2 l.out G.out C.out⟩);have A:=ag (show dD B w (w1.setCell (dq b 1) (.slice (eb L) (st.cs.length+1) cap2)) from(dD.row H.out rfl l.out d7).set j rfl E.out.hb);clear f d I j;go_wp2;go_ret;exact⟨by simp,P.out,A.out⟩
theorem nZ{w:aa}{b:Nat}{st:BS}(last:Bool)(h:Bd w B b st)(q:st.size<=1099511627776):
  cl 152 #[Pt b,.bool last] w (bx w B b (fW st last)):=by
 have l:=ag (dS 13 0 h q);have p:=ag h;clear h;cases last with
 |false=>
  go_enter func152,ntmps152;go_wp2;refine TT ?_;exact⟨rfl,p.out,dD.refl _ _⟩
 |true=>
  go_enter func152,ntmps152;go_wp2_with fail;refine l.out.mono ?_;rintro e w2 ⟨rfl,c,d⟩;have j:=ag c;have f:=ag d;clear c d;go_wp2;refine TT ?_;exact⟨rfl,j.out,f.out⟩
theorem DN:Go.Maps.Keyed prog 9:=Go.Maps.string_keyed underlying9
theorem KJ(w:aa):(zeroValue 3).run prog w=.ok (Jn 0) w:=by kernel_rfl
theorem ux:∀(l:List au) (s:au),l.contains s=false->l.idxOf s=l.length
 |[],s,_=>rfl
 |a::r,s,h=>by
  simp only[R5,Td] at h;have h1:(a==s)=false:=by rw[<-h.1];exact TB
  rw[Sb,h1,ux r s h.2];rfl
theorem rJ:∀(l:List au) (s t:au),l.contains s=true->(l++[t]).idxOf s=l.idxOf s
 |[],s,t,h=>by cases h
 |a::r,s,t,h=>by
  simp only[R5,Bool.or_eq_true] at h;rw[s6,Sb,Sb];cases ha:(a==s) with
  |true=>rfl
  |false=>
   have:(s==a)=false:=by rw[<-ha];exact TB
   rw[this] at h;rcases h with h|h
   .cases h
   .rw[rJ r s t h]
theorem uw:∀(l:List au) (s:au),l.contains s=false->(l++[s]).idxOf s=l.length
 |[],s,_=>by simp[Sb]
 |a::r,s,h=>by
  simp only[R5,Td] at h;have h1:(a==s)=false:=by rw[<-h.1];exact TB
  rw[s6,Sb,h1,uw r s h.2];rfl
theorem tX.put{s:au}(h:tX Dm ns)(j:ns.contains s=false):tX (Dm.put (.string s) (.lit (.int .i64 (ns.length:Nat)))) (ns++[s]):=by
 refine⟨h.1.put _ _,λt=> ?_⟩;by_cases d:t=s
 .subst d;have c:(ns++[t]).contains t=true:=by simp
  refine⟨by rw[has_put_same h.1 (by trivial),c],λ_=> ?_⟩;rw[atKey_put_same h.1 (by trivial),uw ns t j]
 .have b:(Lit.string t)≠Lit.string s:=λe=>d (by cases e;rfl);have c:(ns++[s]).contains t=ns.contains t:=by simp[d]
  rw[has_put_other b,atKey_put_other b,c];exact⟨(h.2 t).1,λf=>by rw[rJ ns t s f];exact(h.2 t).2 f⟩
theorem Fq{st:BS}{s:au}(h:st.ns.contains s=true):bh st s=st:=by unfold bh;rw[fN h]
theorem Fp{st:BS}{s:au}(h:st.ns.contains s=false):bh st s={st with ns:=st.ns++[s]}:=by unfold bh;rw[fb (by rw[h];decide)]
theorem dC.put{w:aa}{b:Nat}{st:BS}{Dm':DataW Unit}{ns':List au}(h:dC w B b st u0 u1 u2 u3 m u5 x1 x3 us)(hm:w.ownsMap prog 9 (plainElem (H:=Unit) prog 3) m n Dm)(d:w.grownBy w1 (some m)):
  w1.heap[b]? =w.heap[b]?/\w1.ownsRow B 174 2 u0 st.is.length (gW st.is)/\w1.ownsRow B 81 1 u1 st.cs.length x1/\Es w1 st.cs x1/\w1.ownsRow B 9 1 u2 st.ns.length (st.ns.map bO)/\w1.ownsRow B 213 3 u3 st.ls.length x3/\vG w1 B st.ls x3/\w1.ownsRow B 83 1 u5 us.length us/\ii w1 (λg=>g<B) st.bs us:=by
 have j:=dD.map hm h.hm h.le d;obtain⟨es,p,l,_⟩:=hm;have kp:∀T,aC T w w1:=λT x c f=>by
  rw[d.block x (ai f) (λe=>by cases e;rw[l] at f;cases f)];exact f
 exact⟨by rw[kp _ _ _ h.hS,h.hS],aA (kp _) h.r0,aA (kp _) h.r1,h.c1.ak (kp _),aA (kp _) h.r2,aA (kp _) h.r3,h.l3.ak (kp _),aA (kp _) h.r5,h.e5.imp (kp _) (λg o d ho=>⟨by rw[j.below.block g d];exact ho,d⟩)⟩
def Dl(w:aa)(B b:Nat)(st:BS)(u0 u1 u3:al)(m:Nat)(u5:al)(x1 x3 a:a7)(s:ao)(e:bo)(w':aa):Prop:=
 e=.returned (Jn (gB st s.data.toList))/\(∃u2,dC w' B b (bh st s.data.toList) u0 u1 u2 u3 m u5 x1 x3 a)/\dD B w w'
theorem DT{w:aa}{b:Nat}{st:BS}(s:ao)(hs:s.size<=maxLen)(h:dC w B b st u0 u1 u2 u3 m u5 x1 x3 us)(hK:st.size<=1099511627776):
  cl 153 #[Pt b,.string s] w (Dl w B b st u0 u1 u3 m u5 x1 x3 us s):=by
 obtain⟨Dm,R,S⟩:=h.mp;have G:=ag S;clear S;have y:=ag h;have HM:=ag R;have HR:=ag h.r2;have A:=WideMaps.keyOf_string_mk (P:=prog) underlying9 hs;have F:=ag A;have d7:B<=w.heap.size:=Sk (RI h.hb (ai h.hS));obtain⟨a,cap,rfl,h4,h5,_⟩:=ay h.r2;have c4:=ae h.hS 4;have c2:=ae h.hS 2;simp only[fD,fy,km] at c2 c4;have ha:st.ns.length<=1099511627776:=by unfold BS.size at hK;omega
 have O:=ai h.hS;obtain⟨i0,hi,U,V,W⟩:=sv qr;have X:=ag (ei hi (ei U (ei V W)));clear h h4 h5 hi U V W R A hK;go_enter func153,ntmps153;go_wp2_with (at_lookup;refine wpList_lookup_own_ok_int _ rfl _ _ 141 rfl 9 3 .i64 DN underlying141 underlying3 (KJ _) m st.ns.length _ rfl HM.out _ _ rfl F.out ?_);intro c M h7;have Y:=ag M;have I:=ag (G.out.2 s.data.toList);obtain⟨has,q⟩:∃has,has=Maps.has Dm (Lit.string s.data.toList):=⟨_,rfl⟩;rw[<-q];have f:=ag (show has=st.ns.contains s.data.toList from by rw[q,I.out.1]);clear M h7 q;cases has with
 |true=>
  go_wp2;go_ret;have hc:=I.out.2 f.out.symm;rw[Y.out] at hc;cases hc;exact⟨rfl,by rw[Fq f.out.symm];exact⟨_,y.out⟩,dD.refl _ _⟩
 |false=>
  go_wp2_with (at_mapUpdate;refine wpList_mapUpdate_own _ rfl _ _ _ 141 rfl 9 3 DN underlying141 _ m st.ns.length _ rfl HM.out (by unfold maxLen;omega) _ _ _ rfl rfl F.out _ [] (plainElem_int underlying3 (WalkArith.wf_i64 (by omega))) ?_);intro w1 r d;have h0:=ag r;have L:=ag (dC.put (Dm':=Dm) (ns':=[]) y.out HM.out d);have x:w1.heap[b]? =some (.cells #[u0,u1,.slice a st.ns.length cap,u3,.map (some m),u5] 147):=by rw[L.out.1];exact y.out.hS
  have d2:=ae x 2;simp only[fD,fy,km] at d2;have HW:=ag x;have E:=ag (dD.map HM.out y.out.hm d7 d);have z:B<=w1.heap.size:=ku d7 d.size;have h8:=ai x;clear r d x;go_wp2_with (at_builtin;refine nl _ rfl (.tmp 35) (.tmp 37) 26 rfl B 9 i0 (.string ⟨#[]⟩) 1 16 underlying26 X.out.1 X.out.2.1 X.out.2.2.1 X.out.2.2.2 rfl (by decide) _ st.ns.length (st.ns.map bO) rfl (L.out.2.2.2.2.1.alloc _) (dq w1.heap.size 0) 1 1 [.string s] rfl rfl (RW _ _ _) (by intro u hu;simp at hu;subst hu;rfl) (by decide) (by unfold maxLen;omega) (by omega) (by simp;omega) (w1.heap.size+1) (by simp) ?_);intro C cap2 w2 t l N h9;have p:=ag (bC l);have h3:=ag t;have j:=aM L.out.2.2.2.2.1 p.out (T':=147) (by decide) _ _ HW.out;have e2:=ae j 2;simp only[fD,fy,km] at e2;have f2:=ah j 2;have D:=ag (show∀Dm',w1.ownsMap prog 9 (plainElem (H:=Unit) prog 3) m (st.ns.length+1) Dm'->tX Dm' (st.ns++[s.data.toList])->dC (w2.setCell (dq b 2) (.slice (eb C) (st.ns.length+1) cap2)) B b (bh st s.data.toList) u0 u1 (.slice (eb C) (st.ns.length+1) cap2) u3 m u5 x1 x3 us from λDm' Q h6=>by
   obtain⟨q1,q2,q3,q4,q5,q6,q7,q8,q9⟩:=L.out;rw[Fp f.out.symm];have m2:=bm Q (jS q5 p.out Q);have O:Below B w1 (w2.setCell (dq b 2) (.slice (eb C) (st.ns.length+1) cap2)):=(p.out.below z (by intro k hk;exact(ar q5 hk).1)).setCell y.out.hb _;have K:∀T,T≠9->T≠147->aC T w1 (w2.setCell (dq b 2) (.slice (eb C) (st.ns.length+1) cap2)):=λT h1 h2=>(aM q5 p.out h1).trans (aK j h2);refine⟨y.out.hb,TH j,aA (K _ (by decide) (by decide)) q2,aA (K _ (by decide) (by decide)) q3,q4.ak (K _ (by decide) (by decide)),?_,aA (K _ (by decide) (by decide)) q6,q7.ak (K _ (by decide) (by decide)),aA (K _ (by decide) (by decide)) q8,q9.imp (K _ (by decide) (by decide)) (λg o hg ho=>⟨by rw[O.block g hg];exact ho,hg⟩),y.out.hm,Dm',?_,h6⟩
   .have:=aA (aK (o:=2) (v:=.slice (eb C) (st.ns.length+1) cap2) j (by decide)) h3.out;rw[<-Ee s] at this;simpa using this
   .have:=bm m2 (TP (o:=2) (v:=.slice (eb C) (st.ns.length+1) cap2) j m2);simpa using this)
  have HB:=ag (D.out _ h0.out (G.out.put f.out.symm));have Z:=ag (show dD B w (w2.setCell (dq b 2) (.slice (eb C) (st.ns.length+1) cap2)) from(E.out.trans (dD.row L.out.2.2.2.2.1 rfl p.out z)).set j rfl y.out.hb);have J:=ag (show gB st s.data.toList=st.ns.length from ux _ _ f.out.symm);clear t l N j D;go_wp2;go_ret;exact⟨by rw[J.out];rfl,⟨_,HB.out⟩,Z.out⟩
theorem wM{w:aa}{b:Nat}{st:BS}(s:ao)(p:s.size<=maxLen)(h:Bd w B b st)(f:st.size<=1099511627776):
  cl 153 #[Pt b,.string s] w (qe w B b (bh st s.data.toList) (gB st s.data.toList)):=by
 obtain⟨c,u0,u1,u2,u3,m,u5,x1,x3,us,h⟩:=h;refine(DT s p h f).mono λe w' ⟨l,⟨d,hb⟩,j⟩=>⟨l,⟨?_,u0,u1,d,u3,m,u5,x1,x3,us,hb⟩,j⟩;exact c
theorem L5:(prog.info? 3).map (λi=>(i.zero,i.size,i.bytes))=some (some (Jn 0),1,8):=by kernel_rfl
theorem Qb:(prog.info? 213).map (λi=>(i.zero,i.size,i.bytes))=some (some (.agg #[.string ⟨#[]⟩,.slice none 0 0,Jn 0]),3,48):=by kernel_rfl
theorem py:∀(xs:List au) (s:au) (st:BS),cZ st (xs++[s])=bh (cZ st xs) s
 |[],s,st=>rfl
 |x::r,s,st=>by rw[s6,cZ,cZ,py r s]
theorem sa:∀(xs:List au) (s:au) (st:BS),gd st (xs++[s])=gd st xs++[gB (cZ st xs) s]
 |[],s,st=>rfl
 |x::r,s,st=>by rw[s6,gd,gd,sa r s];rfl
theorem ng:∀(xs:List au) (st:BS),(gd st xs).length=xs.length
 |[],st=>rfl
 |x::r,st=>by rw[gd,j1,j1,ng r]
theorem zL(xs:List au)(st:BS):(cZ st xs).size<=st.size+xs.length:=by
 obtain⟨h1,h2,h3,b,c⟩:=bW xs st;unfold BS.size;rw[h1,h2,h3];omega
theorem IP(st:BS)(nm:au)(xs:List au)(a:E):dF st nm xs a={{cZ st xs with ls:=(cZ st xs).ls++[(nm,gd st xs,0)]} with bs:=(cZ st xs).bs++[a]}:=by
 obtain⟨h1,h2,h3,b,c⟩:=bW xs st;unfold dF;rw[h3,b]
theorem dC.ints{w:aa}{b:Nat}{st:BS}(h:dC w B b st u0 u1 u2 u3 m u5 x1 x3 us)(c:w.ownsRow B' 3 1 u n xs)(d:aB (λk=>u.ownBlock=some k) w w1)(hB:B<=B')(p:vG w1 B st.ls x3):dC w1 B b st u0 u1 u2 u3 m u5 x1 x3 us:=by
 obtain⟨Dm,mp,q⟩:=h.mp;have f:Below B w w1:=d.below h.le (by intro k l;exact ku hB (ar c l).1);exact⟨h.hb,aM c d (by decide) _ _ h.hS,aA (aM c d (by decide)) h.r0,aA (aM c d (by decide)) h.r1,h.c1.ak (aM c d (by decide)),aA (aM c d (by decide)) h.r2,aA (aM c d (by decide)) h.r3,p,aA (aM c d (by decide)) h.r5,h.e5.imp (aM c d (by decide)) (λg o j ho=>⟨by rw[f.block g j];exact ho,j⟩),h.hm,Dm,bm mp (jS c d mp),q⟩
theorem dD.own{w:aa}(h:dD B w w1)(hB:B<=w.heap.size)(d:w1.ownsRow w.heap.size T s u n xs)(f:aB (λk=>u.ownBlock=some k) w1 w2):dD B w w2:=by
 refine⟨h.below.trans (f.below (ku hB h.below.size) (by intro k b;exact ku hB (ar d b).1)),λT' l x c j=> ?_⟩;exact f.at (h.kp T' l x c j) (λb=>by have:=(ar d b).1;have:=ai j;omega)
def N6(w:aa)(B b:Nat)(st:BS)(u0 u1 u3:al)(m:Nat)(u5:al)(x1 x3 c:a7)(a:List ao)(u:al)(wr:aa)(k:Nat):Prop:=
 wr.ownsRow w.heap.size 3 1 u k ((gd st (TI (a.take k))).map λ(j:Nat)=>Jn j)/\(∃u2,dC wr B b (cZ st (TI (a.take k))) u0 u1 u2 u3 m u5 x1 x3 c)/\dD B w wr
theorem bytesOf_take(b:List ao)(k:Nat)(c:k<b.length):TI (b.take (k+1))=TI (b.take k)++[b[k].data.toList]:=by
 unfold TI;rw[mn c,s8];rfl
theorem yu(b:List ao)(k:Nat)(c:k<=b.length):(TI (b.take k)).length=k:=by simp[TI];omega
theorem zy{w:aa}{b:Nat}{st:BS}(nm:ao)(u:al)(d:List ao)(k:E)(t:bi)(x:al)(hr:yc w (λg=>g<B) u d)(hI:EV w (λg=>g<B) k (.iface t x))(h:Bd w B b st)(hK:st.size+d.length+1<=1099511627776)(hz:∀z∈d,z.size<=maxLen):
  cl 154 #[Pt b,.agg #[.string nm,u,.iface t x]] w (qe w B b (dF st nm.data.toList (TI d) k) st.bs.length):=by
 obtain⟨a,cap,rfl,Hb,hY,hD⟩:=ay hr.1;unfold maxLen at hY;have hR:=ag (show∀k (hk:k<d.length),∃g,a=eb g/\g<B/\Cl w g k (.string d[k]) from λk hk=>by
  obtain⟨g,rfl,_,hg,hc⟩:=hD (by omega);exact⟨g,rfl,hr.2 g rfl,hc k _ (by simp[hk])⟩)
 have HZ:=ag hz;have d7:B<=w.heap.size:=h.le;have He:d.length<=1099511627776:=by omega
 have hB:=ag hK;have ht:=ag hI;obtain⟨hM,u0,u1,u2,u3,m,u5,x1,x3,us,h⟩:=h;have hT:=ag hM;have hp:=ag h;obtain⟨i0,hi,hO,hP,hQ⟩:=sv L5;have HI:=ag (ei hi (ei hO (ei hP hQ)));clear hi hO hP hQ hz hD hr h hK hI hM;obtain⟨W0,h9⟩:∃W0,W0=w.alloc (.cells #[.string nm,.slice a d.length cap,.iface t x] 277):=⟨_,rfl⟩;have hL:W0.heap[w.heap.size]? =some (.cells #[.string nm,.slice a d.length cap,.iface t x] 277):=by rw[h9];exact n6
 have hm:Below w.heap.size w W0:=by rw[h9];exact aR _ _
 have HL:=ag hL;have H:=ag hm;have Q:B<=W0.heap.size:=ku d7 hm.size;go_enter func154,ntmps154;go_wp2;rw[<-h9];clear h9 hL hm
 go_loopw [5,11] (λu i wr=>∃k:Nat,k<=d.length/\i=Jn k/\N6 W0 B b st u0 u1 u3 m u5 x1 x3 us d u wr k) (λ_ i _=>d.length-(intOf i).toNat)
 case atStart=>exact⟨0,kc _,rfl,oh _ _ _ _,⟨u2,hp.out.below H.out⟩,dD.refl _ _⟩
 case round=>
  obtain⟨k,hk,rfl,q,⟨u2k,J⟩,S⟩:=hrel;have G:=zL (TI (d.take k)) st;rw[yu d k hk] at G;have M:=ag q;have H5:=ag J;have h5:=ag S;by_cases hlt:k<d.length
  .obtain⟨g,rfl,hZ,c0⟩:=hR.out k hlt;have d0:wr.cell? (dq g k)=some (.string d[k]):=by
    rw[S.below.cell (p:=(dq g k)) hZ,H.out.cell (p:=(dq g k)) (by show g<_;omega)];exact c0
   have HN:=ag (DT d[k] (HZ.out _ (Sj hlt)) J (by have:=hB.out;omega));have H2:=q.1;have hv:=ag (bytesOf_take d k hlt);obtain⟨r,hr⟩:∃r,r=gB (cZ st (TI (d.take k))) d[k].data.toList:=⟨_,rfl⟩;have hV:=ag hr;obtain⟨xs,hn⟩:∃xs,xs=(gd st (TI (d.take k))).map λ(j:Nat)=>Jn j:=⟨_,rfl⟩;have hW:=ag hn;rw[<-hn] at M;unfold Dl at HN;rw[<-hr] at HN;clear c0 q J S hr hn G H2;go_wp2_with fail;refine HN.out.mono ?_;rintro e w2 ⟨rfl,⟨u2n,he⟩,U⟩;have hq:=ag he;have ha:=ag (h5.out.trans U);have N:=ag (aA (U.kp 3 rfl) M.out);have hf:=ha.out.below.size;have H8:W0.heap.size<=w2.heap.size:=hf;obtain⟨a3,cap3,rfl,_,_,_⟩:=ay M.out;clear he U HN hf;go_wp2_with (at_builtin;refine nl _ rfl (.tmp 15) (.tmp 19) 30 rfl W0.heap.size 3 i0 (Jn 0) 1 8 underlying30 HI.out.1 HI.out.2.1 HI.out.2.2.1 HI.out.2.2.2 rfl (by decide) _ k xs rfl (N.out.alloc _) (dq w2.heap.size 0) 1 1 [Jn (r:Int)] rfl rfl (RW _ _ _) (by intro u hu;simp at hu;subst hu;rfl) (by decide) (by unfold maxLen;omega) (by omega) (by simp;omega) (w2.heap.size+1) (by simp) ?_);intro g2 cap2 w3 W A hE H3;have hC:=ag (bC A);have hU:=ag W;clear W A hE;go_wp2;go_roundw
   case rel=>
    have hH:=ha.out.own Q N.out hC.out;refine⟨k+1,by omega,rfl,?_,⟨u2n,?_⟩,hH⟩
    .rw[hv.out,sa,s8,<-hW.out,<-hV.out];exact hU.out
    .rw[hv.out,py];refine hq.out.ints N.out hC.out Q ?_;have H1:(bh (cZ st (TI (d.take k))) d[k].data.toList).ls=st.ls:=(bW _ _).2.2.1;rw[H1];exact((hp.out.below H.out).l3).ak (hH.kp 3 rfl)
   case measure=>simp[intOf];omega
  .have H0:k=d.length:=by omega
   subst H0;rw[xp] at J q G;have c:=J;have V:=(bW (TI d) st).2.2.1;have R:=(bW (TI d) st).2.2.2.1;have v:=ag (show(cZ st (TI d)).ls.length=us.length from by rw[V,hT.out,<-R];exact c.e5.length);have hs:=ag (show us.length=st.bs.length from by rw[<-c.e5.length,R]);have Hd:us.length<=1099511627776:=by have h1:=hB.out;have h2:=v.out;unfold BS.size at h1;rw[V] at h2;omega
   have HH:=ag c;have M:=ag q;have L:=ag (show wr.ownsRow B 213 3 u3 us.length x3 from by rw[<-v.out];exact c.r3);have H6:=ag c.r5;obtain⟨a3,cap3,rfl,_,_,_⟩:=ay L.out;obtain⟨a5,cap5,rfl,_,_,_⟩:=ay c.r5;obtain⟨a6,cap6,rfl,_,_,_⟩:=ay q;have P:=S.kp 277 rfl _ _ HL.out;have hw:=ag P;have l0:=ae P 0;have l2:=ae P 2;have c3:=ae c.hS 3;have c5:=ae c.hS 5;simp only[fD,fy,km] at l0 l2 c3 c5;have f3:=ah c.hS 3;have H7:=ai P;have Ha:=ai c.hS;obtain⟨j0,hj,Z,h0,h4⟩:=sv Qb;have HJ:=ag (ei hj (ei Z (ei h0 h4)));have hd:B<=wr.heap.size:=by omega
   have mixed:prog.follows Departure.mixedOrders=true:=by kernel_rfl
   clear q S c J P hj Z h0 h4 G V R;go_wp2;go_region_law (refine R2 _ rfl (.tmp 27) (.tmp 32) 143 rfl B 213 j0 (.agg #[.string ⟨#[]⟩,.slice none 0 0,Jn 0]) 3 48 underlying143 HJ.out.1 HJ.out.2.1 HJ.out.2.2.1 HJ.out.2.2.2 rfl (by decide) (.slice a3 us.length cap3) us.length x3 (by simp[Act.eval,Act.put]) (L.out.alloc _) (dq wr.heap.size 0) 1 1 [.string nm,.slice a6 d.length cap6,Jn 0] (by simp[Act.eval,Act.put]) rfl (PL (fK _ _)) (by intro u hu;simp at hu;rcases hu with rfl|rfl|rfl<;>rfl) (by decide) (by unfold maxLen;omega) (by omega) (by simp;omega) (wr.heap.size+1) (by simp) ?_;intro g7 cap7 w7 X C hF hN;have O:=ag (T2 (((TU (λk=>(Value.slice a3 us.length cap3).ownBlock=some k) wr).alloc _).drew) C (λk hk _=>hk));have hx:=ag X;have h7:=aM L.out O.out (T':=147) (by decide) _ _ HH.out.hS;have d3:=ae h7 3;simp only[fD,fy,km] at d3;have f7:=ah h7 3;have hh:=ag h7;clear X C hF h7)
   all_goals
    have f:=ag (HH.out.Q3 (l:=(nm.data.toList,gd st (TI d),0)) O.out (by rw[v.out];exact hx.out) ⟨(Ee nm).symm,by rw[ng];rw[show(TI d).length=d.length from by simp[TI]];exact ba M.out Q,rfl⟩);have F:(w7.setCell (dq b 3) (.slice (eb g7) (us.length+1) cap7)).heap[w.heap.size]? =some (.cells #[.string nm,.slice a d.length cap,.iface t x] 277):=aK hh.out (by decide) _ _ (aM L.out O.out (by decide) _ _ hw.out);have I:=ag (show dD B wr (w7.setCell (dq b 3) (.slice (eb g7) (us.length+1) cap7)) from(dD.row L.out rfl O.out hd).set hh.out rfl HH.out.hb);obtain⟨W8,hl⟩:∃W8,W8=w7.setCell (dq b 3) (.slice (eb g7) (us.length+1) cap7):=⟨_,rfl⟩;rw[<-hl] at f F I;rw[<-hl];have hX:B<=W8.heap.size:=ku hd I.out.below.size;have m0:=ae F 2;have m5:=ae f.out.hS 5;simp only[fD,fy,km] at m0 m5;have Hc:=ai F;have H9:=ai f.out.hS;have y:=ag f.out.r5;obtain⟨k0,hJ,Z,h0,h4⟩:=sv rK;have K:=ag (ei hJ (ei Z (ei h0 h4)));clear hl F O hx hh d3 f7 l0 l2 c3 c5 f3 hJ Z h0 h4 hN hw HJ;go_wp2;go_region_law (refine R2 _ rfl (.tmp 41) (.tmp 44) 79 rfl B 83 k0 .nilIface 1 16 underlying79 K.out.1 K.out.2.1 K.out.2.2.1 K.out.2.2.2 rfl (by decide) (.slice a5 us.length cap5) us.length us (by simp[Act.eval,Act.put]) (y.out.alloc _) (dq W8.heap.size 0) 1 1 [.iface t x] (by simp[Act.eval,Act.put]) rfl (PL (fK _ _)) (by intro u hu;simp at hu;subst hu;rfl) (by decide) (by unfold maxLen;omega) (by omega) (by simp;omega) (W8.heap.size+1) (by simp) ?_;intro g9 cap9 w9 Y D hG H4;have h6:=ag (T2 (((TU (λk=>(Value.slice a5 us.length cap5).ownBlock=some k) W8).alloc _).drew) D (λk hk _=>hk));have hy:=ag Y;have h8:=aM y.out h6.out (T':=147) (by decide) _ _ f.out.hS;have d5:=ae h8 5;simp only[fD,fy,km] at d5;have f9:=ah h8 5;have hA:=ag h8;clear Y D hG h8)
    all_goals
     have HF:=ag (f.out.Q4 (k:=k) h6.out hy.out (ht.out.imp ((((TX H.out).trans (h5.out.kp _ rfl)).trans (I.out.kp _ rfl))) (λg o hg ho=>⟨by rw[I.out.below.block g hg,h5.out.below.block g hg,H.out.block g (gr hg d7)];exact ho,hg⟩)));have HC:=ag (show dD B w (w9.setCell (dq b 5) (.slice (eb g9) (us.length+1) cap9)) from(((T3 d7 H.out).trans h5.out).trans I.out).trans ((dD.row y.out rfl h6.out hX).set hA.out rfl f.out.hb));clear f I y K hA h6 hy m0 m5;go_wp2;go_ret;exact⟨by rw[<-hs.out];simp,by rw[IP];exact⟨by have h1:=v.out;have h2:=hs.out;have h3:=(bW (TI d) st).2.2.2.1;simp[h1,h2,h3],_,_,_,_,_,_,_,_,_,HF.out⟩,HC.out⟩
theorem oq(st:BS)(last:Bool):st.is.length<=(fW st last).is.length:=by
 unfold fW;split<;>simp[am]
theorem OP(st:BS)(nm:au)(xs:List au)(a:E):(dF st nm xs a).is=st.is:=(bW xs st).1
mutual
theorem iy:∀(e:E) (last:Bool) (st:BS),st.is.length<=(aL e last st).is.length
 |.const d,last,st=>by
  have:=oq (am (bM st (some d)) 1 st.cs.length) last;simp[aL,am,bM] at *;omega
 |.nothing,last,st=>by
  have:=oq (am (bM st none) 1 st.cs.length) last;simp[aL,am,bM] at *;omega
 |.var s,last,st=>by
  have:=oq (am (bh st s) 2 (gB st s)) last;simp[aL,am,bh] at *;omega
 |.lambda nm xs a,last,st=>by
  have:=oq (am (dF st nm xs a) 3 st.bs.length) last;simp[aL,am,OP] at *;omega
 |.define s a,last,st=>by
  have f:=iy a false (am st 4 0);have h1:=oq (am (bh (aF (aL a false (am st 4 0)) st.is.length) s) 9 (gB (aF (aL a false (am st 4 0)) st.is.length) s)) last;simp[aL,am,bh,aF] at *;omega
 |.set s a,last,st=>by
  have f:=iy a false (am st 4 0);have h1:=oq (am (bh (aF (aL a false (am st 4 0)) st.is.length) s) 10 (gB (aF (aL a false (am st 4 0)) st.is.length) s)) last;simp[aL,am,bh,aF] at *;omega
 |.ite a b c,last,st=>by
  have f:=iy a false (am st 4 0);have h1:=iy b true (am (aF (aL a false (am st 4 0)) st.is.length) 8 0);have h2:=iy c true (aF (aL b true (am (aF (aL a false (am st 4 0)) st.is.length) 8 0)) (aF (aL a false (am st 4 0)) st.is.length).is.length);simp[aL,am,aF] at *;omega
 |.seq es,last,st=>by
  have:=IL es 4 last st;simpa[aL] using this
 |.apply es,last,st=>by
  have:=IK es 4 st;simp[aL,am] at *;omega
theorem IL:∀(es:List E) (op:Int) (last:Bool) (st:BS),st.is.length<=(eS es op last st).is.length
 |[],op,last,st=>by simp[eS]
 |[e],op,last,st=>by
  have:=iy e last (am st 7 0);simp[eS,am] at *;omega
 |e::e2::r,op,last,st=>by
  have h1:=iy e false (am st op 0);have h2:=IL (e2::r) 6 last (aF (aL e false (am st op 0)) st.is.length);simp[eS,am,aF] at *;omega
theorem IK:∀(es:List E) (op:Int) (st:BS),st.is.length<=(fE es op st).is.length
 |[],op,st=>by simp[fE]
 |e::r,op,st=>by
  have h1:=iy e false (am st op 0);have h2:=IK r 5 (aF (aL e false (am st op 0)) st.is.length);simp[fE,am,aF] at *;omega
end
theorem cW(st:BS):st.size<=st.eh:=by unfold BS.eh;omega
theorem EV.uj{n:E}{w:aa}{v:al}(h:EV w (λg=>g<B) n v)(b:dD B w w'):EV w' (λg=>g<B) n v:=h.imp (b.kp _ rfl) λg o c ho=>⟨by rw[b.below.block g c];exact ho,c⟩
theorem ii.uj{n:List E}{w:aa}{v:a7}(h:ii w (λg=>g<B) n v)(b:dD B w w'):ii w' (λg=>g<B) n v:=h.imp (b.kp _ rfl) λg o c ho=>⟨by rw[b.below.block g c];exact ho,c⟩
def td(N:Nat):Prop:=∀(n:E) (w:aa) (v:al) (B b:Nat) (st:BS) (last:Bool),cJ n<=N->EV w (λg=>g<B) n v->Bd w B b st->st.eh+8 *cJ n<=1099511627776->cl 97 #[Pt b,v,.bool last] w (bx w B b (aL n last st))
theorem jy(N:Nat)(hp:td N)(n:E)(op:Int)(w:aa)(v:al)(B b:Nat)(st:BS)(O:cJ n<=N)(I:EV w (λg=>g<B) n v)(h:Bd w B b st)(L:st.eh+8 *cJ n+1<=1099511627776):
  cl 155 #[Pt b,Jn op,v] w (bx w B b (eJ op n st)):=by
 have H:=cW st;have J:=ag (dS op 0 h (by omega));have G:=ag (λ(w1:aa) (M:dD B w w1) (h1:Bd w1 B b (am st op 0))=>hp n w1 v B b (am st op 0) false O (I.uj M) h1 (by rw[bu];omega));have f:=ag (show st.is.length<(aL n false (am st op 0)).is.length from by have:=iy n false (am st op 0);simp[am] at this ⊢;omega);have l:=ag (show(aL n false (am st op 0)).size<=1099511627776 from by have h1:=dI n false (am st op 0);have h2:=cW (aL n false (am st op 0));rw[bu] at h1;omega);obtain⟨t,x,rfl⟩:=I.form;have p:=ag (show eJ op n st=aF (aL n false (am st op 0)) st.is.length from rfl);rw[p.out];obtain⟨st1,c⟩:∃st1,st1=aL n false (am st op 0):=⟨_,rfl⟩;rw[<-c] at G f l;rw[<-c];clear hp I h c p L H;go_enter func155,ntmps155;go_wp2_with fail;refine J.out.mono ?_;rintro e w1 ⟨rfl,q,z⟩;have D:=ag q;have d:=ag z;clear q z J;go_wp2_with fail;refine(G.out _ d.out D.out).mono ?_;rintro e w2 ⟨rfl,r,A⟩;have F:=ag (d.out.trans A);have j:=ag (jV st.is.length f.out r l.out);clear A G r;go_wp2_with fail;refine j.out.mono ?_;rintro e w3 ⟨rfl,y,C⟩;have K:=ag (show bx w B b (aF st1 st.is.length) (.returned (.tuple #[])) w3 from⟨rfl,y,F.out.trans C⟩);clear y C j;go_wp2;refine TT ?_;exact K.out
theorem yw(N:Nat)(hp:td N)(f d j:E)(last:Bool)(w:aa)(v1 v2 v3:al)(B b:Nat)(st:BS)(hn:cJ f+cJ d+cJ j<=N)(h1:EV w (λg=>g<B) f v1)(h2:EV w (λg=>g<B) d v2)(h3:EV w (λg=>g<B) j v3)(h:Bd w B b st)(hK:st.eh+8 *(cJ f+cJ d+cJ j+1)<=1099511627776):
  cl 156 #[Pt b,.agg #[v1,v2,v3]] w (bx w B b (aL (.ite f d j) last st)):=by
 have HW:=ag (jy N hp);have V:=ag hp;have HV:=ag (ei h1 (ei h2 h3));obtain⟨t1,x1,rfl⟩:=h1.form;obtain⟨t2,x2,rfl⟩:=h2.form;obtain⟨t3,x3,rfl⟩:=h3.form;have d7:=h.le;have W:=ag (show aL (.ite f d j) last st=aL j true (aF (aL d true (am (eJ 4 f st) 8 0)) (eJ 4 f st).is.length) from by simp only[aL];rfl);rw[W.out];have t:(eJ 4 f st).eh<=st.eh+8 *cJ f:=by have:=dI f false (am st 4 0);rw[bu] at this;unfold eJ;rw[eq];omega
 obtain⟨c,p⟩:∃c,c=eJ 4 f st:=⟨_,rfl⟩;have h7:=ag p;rw[<-p] at t;rw[<-p];have v:(aL d true (am c 8 0)).eh<=c.eh+8 *cJ d:=by have:=dI d true (am c 8 0);rw[bu] at this;omega
 have P:=ag (show c.is.length<(aL d true (am c 8 0)).is.length from by have:=iy d true (am c 8 0);simp[am] at this ⊢;omega);obtain⟨H,q⟩:∃H,H=aL d true (am c 8 0):=⟨_,rfl⟩;have h8:=ag q;rw[<-q] at v P;rw[<-q];have h9:=cW c;have ha:=cW H;have r:=ag (show st.eh+8 *cJ f+1<=1099511627776/\c.size<=1099511627776/\c.eh+1+8 *cJ d<=1099511627776/\H.size<=1099511627776/\H.eh+8 *cJ j<=1099511627776/\cJ f<=N/\cJ d<=N/\cJ j<=N from by have:=qx j;omega);obtain⟨X,l⟩:∃X,X=w.alloc (.cells #[.iface t1 x1,.iface t2 x2,.iface t3 x3] 261):=⟨_,rfl⟩;have hL:X.heap[w.heap.size]? =some (.cells #[.iface t1 x1,.iface t2 x2,.iface t3 x3] 261):=by rw[l];exact n6
 have y:Below w.heap.size w X:=by rw[l];exact aR _ _
 have HL:=ag hL;have L:=ag (T3 d7 y);have K:=ag (h.below y);clear h1 h2 h3 hp h y t v h9 ha hK hn p q W;go_enter func156,ntmps156;go_wp2_with fail;rw[<-l];clear l hL;refine(HW.out f 4 X _ B b st r.out.2.2.2.2.2.1 (HV.out.1.uj L.out) K.out r.out.1).mono ?_;rintro e w1 ⟨rfl,z,C⟩;rw[<-h7.out] at z;have h5:=ag (L.out.trans C);have Q:=ag (C.kp 261 rfl _ _ HL.out);have HE:=ag (dS 8 0 z r.out.2.1);clear C z HL;go_wp2_with fail;refine HE.out.mono ?_;rintro e w2 ⟨rfl,Y,D⟩;have M:=ag (h5.out.trans D);have x:=ag (D.kp 261 rfl _ _ Q.out);have I:=ag Y;clear D Y Q HE;have d1:=ae x.out 1;simp only[fD,fy,km] at d1;go_wp2_with fail;refine(V.out d w2 _ B b (am c 8 0) true r.out.2.2.2.2.2.2.1 (HV.out.2.1.uj M.out) I.out (by rw[bu];exact r.out.2.2.1)).mono ?_;rintro e w3 ⟨rfl,A,F⟩;rw[<-h8.out] at A;have h6:=ag (M.out.trans F);have R:=ag (F.kp 261 rfl _ _ x.out);have U:=ag (jV c.is.length P.out A r.out.2.2.2.1);clear F A x d1 I;go_wp2_with fail;refine U.out.mono ?_;rintro e w4 ⟨rfl,Z,G⟩;have O:=ag (h6.out.trans G);have S:=ag (G.kp 261 rfl _ _ R.out);have J:=ag Z;clear G Z R U;have d2:=ae S.out 2;simp only[fD,fy,km] at d2;go_wp2_with fail;refine(V.out j w4 _ B b (aF H c.is.length) true r.out.2.2.2.2.2.2.2 (HV.out.2.2.uj O.out) J.out (by rw[eq];exact r.out.2.2.2.2.1)).mono ?_;rintro e w5 ⟨rfl,h0,h4⟩;have HF:=ag (show bx w B b (aL j true (aF H c.is.length)) (.returned (.tuple #[])) w5 from⟨rfl,h0,O.out.trans h4⟩);clear h0 h4 S d2 J;go_wp2;refine TT ?_;exact HF.out
end Go.Proofs.YtlobegpjenabaaaGreatDoor
