import GoSem.ClaimWide
import Derived.Test.YtlobegpjenabaaaGreatDoorProg
import Derived.WalkKit
import Derived.WalkSpells
import Derived.WalkLawsBesides
import Derived.Deep.QuietTactic
import Derived.BigQuiet
import Derived.RegionTactic
import Derived.Laws.ResultCell
import Derived.Deep.AppendLies
namespace Go.Proofs.YtlobegpjenabaaaGreatDoor
open Go.RowKit Tryz
set_option linter.unusedSimpArgs false
set_option linter.unusedVariables false
set_option linter.defProp false
set_option maxRecDepth 100000
set_option maxHeartbeats 4000000
abbrev au:=List UInt8
abbrev a7:=List Value
abbrev a8:=Option Addr
abbrev a9:=Nat->Prop
abbrev bc:=Array Value
abbrev aa:=World
abbrev al:=Value
abbrev ao:=ByteArray
abbrev bi:=TypeId
abbrev bo:=Ending
abbrev bp:=UInt8
abbrev cl(n:Nat)(a:Array Value)(w:World)(P:Ending->World->Prop):Prop:=Calls prog n a w P
abbrev dq(b o:Nat):Addr:=⟨b,o,none⟩
abbrev eb(b:Nat):Option Addr:=some ⟨b,0,none⟩
theorem TT{P:Program}{fn:Func}{R:Ending->World->Prop}{a:Act}{w:World}(r:R (.returned (.tuple #[])) w)(h:fn.results=#[]:=by rfl)(d:a.defers=[]:=by rfl):bodyPost P fn R .ret a w:=bodyPost_ret (results_none h _ _ _) d r
def ew:=@Nat.le_refl
def fb:=@if_neg
def ff:=@bodyPost_ret
def fA:=@List.getElem?_eq_getElem
def fL:=@Below.refl
def fN:=@if_pos
def gr:=@Nat.lt_of_lt_of_le
def j1:=@List.length_cons
def j2:=@beq_eq_false_iff_ne
def kc:=@Nat.zero_le
def ku:=@Nat.le_trans
def kx:=@World.cell?_setCell_other
def mn:=@List.take_succ_eq_append_getElem
def o5:=@List.getElem?_append_left
def rr:=@Bool.and_eq_true
def sb:=@Nat.lt_or_ge
def s7:=@List.getElem?_append_right
def s9:=@List.take_of_length_le
def tm:=@Below.heap_alloc
def xb:=@beq_iff_eq
def C2:=@Bool.eq_iff_iff
def C3:=@ByteArray.toList_eq
def K1:=@List.drop_eq_getElem_cons
def Ps:=@List.flatMap_cons
def P5:=@Nat.lt_or_eq_of_le
def RA:=@Or.inr
def RP:=@Or.inl
def RT:=@List.all_eq_true
def R6:=@Below.heap_setCell
def Sn:=@List.getElem?_drop
def So:=@List.drop_of_length_le
def St:=@World.frozen?_setCell
def Sx:=@Bool.and_assoc
def SL:=@List.drop_append_of_le_length
def SP:=@List.all_append
def S6:=@Ne.symm
def S7:=@Array.getElem?_eq_none
def Tc:=@Int.le_refl
def Tp:=@Bool.eq_false_iff
def TC:=@Bool.and_true
def TE:=@decide_false
abbrev Cl(w:aa)(b o:Nat)(v:al):Prop:=w.cell? ⟨b,o,none⟩=some v
abbrev Pt(b:Nat):al:=.pointer (some ⟨b,0,none⟩)
abbrev Jn(n:Int):al:=.int .i64 n
variable {k:IntKind} {a:Int} {p:Prop} {h x o:Bool} {n B hi':Nat} {S S':a9} {w1 w2 w':aa} {T:bi} {α:Type}
abbrev D:=DataW Unit
def sym(s:au):D:=.lit (.string s)
def num(k:Int):D:=.lit (.int .i64 k)
def Qz(b:Bool):D:=.lit (.bool b)
def ju(l:List D):D:=.agg l
def sr:au:=[113,117,111,116,101]
def iG(b:Int):Bool:=decide (48<=b)&&decide (b<=57)
def pV(b:Int):Bool:=decide (97<=b)&&decide (b<=122)
def nj:List Int:=[43,45,42,47,60,62,61,63,33]
def bZ(b:Int):Int:=if iG b then 1 else if pV b then 2 else if b==35 then 3 else if nj.contains b then 2 else 0
def cY(c:bp):Int:=bZ c.toNat
def cX:Bool->au->Nat
 |_,[]=>0
 |false,c::r=>if c.toNat=32\/c.toNat=10 then cX false r+1 else if c.toNat=59 then cX true r+1 else 0
 |true,c::r=>if c.toNat=10 then cX false r+1 else cX true r+1
def aJ(l:au)(i:Nat):Nat:=i+cX false (l.drop i)
def oS:au->Nat
 |[]=>0
 |c::r=>if cY c=0 then 0 else oS r+1
def bH(l:au)(i:Nat):Nat:=i+oS (l.drop i)
def oU(a:Int):au->Int
 |[]=>a
 |c::r=>oU (10 *a+(c.toNat-48:Int)) r
def val(l:au):Int:=oU 0 l
def TL(t:au):Bool:=match t with|c::_=>c.toNat==45|[]=>false
def body(t:au):au:=if TL t then t.tail else t
def TK(t:au):Bool:= !t.isEmpty&&t.all λc=>cY c==1
def gS(t:au):Bool:=t.any λc=>cY c==3
def od(t:au):Bool:=match t with|c::_=>cY c==1|[]=>false
def ig(t:au):Option D:=
 if t=[35,116] then some (Qz true) else if t=[35,102] then some (Qz false)
 else if TK (body t) then(if 18<(body t).length then none else some (num (if TL t then-(val (body t)) else val (body t))))
 else if od t||gS t then none else some (sym t)
abbrev xX(α:Type):=Sum (Int×Nat) α
def rd:Nat->au->Nat->Nat->Option (List D)->xX (D×Nat)
 |0,_,_,_,_=>.inl (0,0)
 |n+1,l,op,i,none=>
  if(l.getD i 0).toNat=41 then .inl (2,i)
  else if(l.getD i 0).toNat=40 then(if 20<=op then .inl (3,i) else rd n l (op+1) (i+1) (some []))
  else if(l.getD i 0).toNat=39 then
   (if 20<=op then .inl (3,i) else if aJ l (i+1)=l.length then .inl (2,l.length) else
    match rd n l (op+1) (aJ l (i+1)) none with
    |.inl e=>.inl e
    |.inr (d,k)=>.inr (ju [sym sr,d],k))
  else if bH l i=i then .inl (2,i)
  else match ig ((l.drop i).take (bH l i-i)) with
   |none=>.inl (2,i)
   |some d=>.inr (d,bH l i)
 |n+1,l,op,i,some a=>
  if aJ l i=l.length then .inl (2,l.length)
  else if(l.getD (aJ l i) 0).toNat=41 then .inr (ju a,aJ l i+1)
  else match rd n l op (aJ l i) none with
   |.inl e=>.inl e
   |.inr (d,k)=>rd n l op k (some (a++[d]))
def dz:Nat->au->Nat->List D->xX (List D)
 |0,_,_,a=>.inr a
 |n+1,l,i,a=>
  if aJ l i=l.length then .inr a
  else match rd (2 *l.length+2) l 0 (aJ l i) none with
   |.inl e=>.inl e
   |.inr (d,k)=>dz n l k (a++[d])
def OS:List au:=[[113,117,111,116,101],[105,102],[100,101,102,105,110,101],[115,101,116,33],[108,97,109,98,100,97],[98,101,103,105,110],[108,101,116]]
def l7(s:au):Bool:=OS.contains s
def cI:D->Bool
 |.lit (.string s)=> !l7 s
 |_=>false
def bS:D->au
 |.lit (.string s)=>s
 |_=>[]
def bn:List au->List D->Bool
 |_,[]=>true
 |seen,d::r=>cI d&& !seen.contains (bS d)&&bn (seen++[bS d]) r
def aX:D->Bool
 |.agg _=>true
 |.slice _ _=>true
 |_=>false
def aE:D->List D
 |.agg l=>l
 |.slice l _=>l
 |_=>[]
def aO:List D->au
 |.lit (.string s)::_=>if l7 s then s else []
 |_=>[]
def jg(f:D->Bool):List au->List D->Bool
 |_,[]=>true
 |seen,b::r=>aX b&&decide ((aE b).length=2)&&f ((aE b).getD 1 (ju []))&&jg f seen r
def aG:Nat->D->Bool
 |0,_=>false
 |n+1,.agg l=>
  if aO l=[113,117,111,116,101] then decide (l.length=2)
  else if aO l=[105,102] then(decide (l.length=3)||decide (l.length=4))&&l.tail.all (aG n)
  else if aO l=[115,101,116,33] then decide (l.length=3)&&cI (l.getD 1 (ju []))&&(l.drop 2).all (aG n)
  else if aO l=[108,97,109,98,100,97] then decide (3<=l.length)&&aX (l.getD 1 (num 0))&&bn [] (aE (l.getD 1 (num 0)))&&(l.drop 2).all (aG n)
  else if aO l=[98,101,103,105,110] then decide (2<=l.length)&&l.tail.all (aG n)
  else if aO l=[100,101,102,105,110,101] then
   (if 3<=l.length/\0<(aE (l.getD 1 (num 0))).length
    then cI ((aE (l.getD 1 (num 0))).getD 0 (num 0))&&bn [] (aE (l.getD 1 (num 0))).tail&&(l.drop 2).all (aG n)
    else decide (l.length=3)&&cI (l.getD 1 (ju []))&&(l.drop 2).all (aG n))
  else if aO l=[108,101,116] then
   decide (3<=l.length)&&aX (l.getD 1 (num 0))&&jg (aG n) [] (aE (l.getD 1 (num 0)))&&bn [] ((aE (l.getD 1 (num 0))).map λb=>(aE b).getD 0 (num 0))&&(l.drop 2).all (aG n)
  else !l.isEmpty&&l.all (aG n)
 |n+1,.slice l _=>
  if aO l=[113,117,111,116,101] then decide (l.length=2)
  else if aO l=[105,102] then(decide (l.length=3)||decide (l.length=4))&&l.tail.all (aG n)
  else if aO l=[115,101,116,33] then decide (l.length=3)&&cI (l.getD 1 (ju []))&&(l.drop 2).all (aG n)
  else if aO l=[108,97,109,98,100,97] then decide (3<=l.length)&&aX (l.getD 1 (num 0))&&bn [] (aE (l.getD 1 (num 0)))&&(l.drop 2).all (aG n)
  else if aO l=[98,101,103,105,110] then decide (2<=l.length)&&l.tail.all (aG n)
  else if aO l=[100,101,102,105,110,101] then
   (if 3<=l.length/\0<(aE (l.getD 1 (num 0))).length
    then cI ((aE (l.getD 1 (num 0))).getD 0 (num 0))&&bn [] (aE (l.getD 1 (num 0))).tail&&(l.drop 2).all (aG n)
    else decide (l.length=3)&&cI (l.getD 1 (ju []))&&(l.drop 2).all (aG n))
  else if aO l=[108,101,116] then
   decide (3<=l.length)&&aX (l.getD 1 (num 0))&&jg (aG n) [] (aE (l.getD 1 (num 0)))&&bn [] ((aE (l.getD 1 (num 0))).map λb=>(aE b).getD 0 (num 0))&&(l.drop 2).all (aG n)
  else !l.isEmpty&&l.all (aG n)
 |_+1,.lit (.string s)=> !l7 s
 |_+1,_=>true
def dX(n:Nat):Nat->List D->Option Nat
 |_,[]=>none
 |i,d::r=>if aG n d then dX n (i+1) r else some i
def fH(l:au):Int×Int:=
 if 1000<l.length then(1,1000)
 else match dz (l.length+1) l 0 [] with
  |.inl (e,a)=>(e,a)
  |.inr f=>match dX 21 0 f with
   |some i=>(4,i)
   |none=>(0,0)
theorem bL{b:Int}(h:a=b):Ending.returned (.int k a)=.returned (.int k b):=by rw[h]
theorem aS{a b:Bool}(h:a=b):Ending.returned (.bool a)=.returned (.bool b):=by rw[h]
theorem eZ(b:Int)(w:aa):
  cl 199 #[.int .u8 b] w λe w'=>e=.returned (.bool (iG b))/\w'=w:=by
 by_cases h1:48<=b<;>by_cases h2:b<=57<;>
 .go_enter func199,ntmps199;go_wp2;go_ret;exact⟨by simp[iG,h1,h2],rfl⟩
def kQ(b:Int)(k:Nat):Bool:=(nj.take k).all λx=> !(x==b)
theorem J8(b:Int)(h1:iG b=false)(h2:pV b=false)(h3:(b==35)=false)(h:kQ b 9=true):bZ b=0:=by
 simp[kQ,nj] at h;simp[bZ,h1,h2,h3,nj];omega
theorem F5(b:Int)(h1:iG b=false)(h2:pV b=false)(h3:(b==35)=false)(this:b∈nj):bZ b=2:=by
 simp[bZ,h1,h2,h3,this]
theorem zU(b:Int)(k:Nat)(x:Int)(d:nj[k]? =some x)(h:kQ b k=true)(c:(x==b)=false):kQ b (k+1)=true:=by
 unfold kQ at *;rw[List.take_add_one,SP,h,d];simp[c]
theorem gO(b:Int)(w:aa):
  cl 107 #[.int .u8 b] w λe w'=>e=.returned (Jn (bZ b))/\w'=w:=by
 by_cases h1:48<=b/\b<=57
 .obtain⟨h1,h2⟩:=h1;go_enter func107,ntmps107;go_wp2;go_ret;exact⟨by simp[bZ,iG,h1,h2],rfl⟩
 have c:iG b=false:=by simp[iG];omega
 by_cases h2:97<=b/\b<=122
 .obtain⟨h3,t⟩:=h2;have d:¬b<=57:=by omega
  go_enter func107,ntmps107;go_wp2;go_ret;exact⟨by simp[bZ,c,pV,h3,t],rfl⟩
 have f:pV b=false:=by simp[pV];omega
 by_cases d:b=35
 .subst d;go_enter func107,ntmps107;go_wp2;go_ret;exact⟨by simp[bZ,iG,pV],rfl⟩
 have l:(b==35)=false:=by simpa using d
 clear d;have g:=J8 b c f l;have j:=F5 b c f l;have r:Hid (kQ b 9=true->bZ b=0):=g;have s:Hid (b∈nj->bZ b=2):=j;clear g j c f;by_cases v:48<=b<;>by_cases y:97<=b
 all_goals try (have z:¬b<=57:=by omega)
 all_goals try (have A:¬b<=122:=by omega)
 all_goals try omega
 all_goals
  go_enter func107,ntmps107;go_wp2
  go_loop [4] (λi=>∃k:Nat,k<=9/\i=Jn k/\kQ b k=true) (λi=>9-(intOf i).toNat)
  case atStart=>exact⟨0,kc _,rfl,rfl⟩
  case round=>
   obtain⟨k,m,rfl,q⟩:=hrel;have H:Hid (kQ b k=true):=q;clear q;have m:k=0\/k=1\/k=2\/k=3\/k=4\/k=5\/k=6\/k=7\/k=8\/k=9:=by omega
   rcases m with rfl|rfl|rfl|rfl|rfl|rfl|rfl|rfl|rfl|rfl
   all_goals go_wp2
   all_goals first
    |(go_round
      case rel=>exact⟨_+1,by decide,rfl,zU b _ _ (by rfl) H.out (by assumption)⟩
      case measure=>simp[intOf])
    |(go_ret
      exact⟨bL (r.out H.out).symm,rfl⟩)
    |(have u:=xb.1 (by assumption)
      go_ret;exact⟨bL (s.out (by rw[<-u];decide)).symm,rfl⟩)
def bD(v:al)(W:aa)(e:bo)(w':aa):Prop:=e=.returned v/\w'=W
def dR(k:Int):al:=.iface 107 (.agg #[.int .i64 k])
theorem Ir(w:aa)(M gf:Nat)(n:Int)(b:al)(d:M<w.heap.size)(k3:Cl w M 3 (Pt gf))(k6:Cl w M 6 b)(c:w.frozen? (dq M 6)=false):
  cl 116 #[Pt M,Jn n] w (bD .nilIface ((w.setCell (dq M 6) (Pt w.heap.size)).alloc (.cells #[.pointer none,Jn 0,Pt gf,Jn n,.pointer none] 115))):=by
 go_enter func116,ntmps116;go_wp2;go_ret;exact⟨rfl,rfl⟩
theorem vV(w:aa)(M b g len c:Nat)(n:Nat)(t:bi)(x d:al)(l:Cl w M 0 (Pt b))(k2:Cl w M 2 d)(e:w.frozen? (dq M 2)=false)(b1:Cl w b 1 (.slice (eb g) len c))(i:n<len)(f:len<=1000000)(j:Cl w g n (.iface t x)):
  cl 117 #[Pt M,Jn n] w (bD .nilIface (w.setCell (dq M 2) (.iface t x))):=by
 go_enter func117,ntmps117;go_wp2;go_ret;exact⟨rfl,rfl⟩
theorem Ig(w:aa)(M E:Nat)(n:Int)(q:a8)(k6:Cl w M 6 (Pt E))(c:w.frozen? (dq M 6)=false)(b:Cl w E 0 (.pointer q)):
  cl 123 #[Pt M,Jn n] w (bD .nilIface (w.setCell (dq M 6) (.pointer q))):=by
 go_enter func123,ntmps123;go_wp2;go_ret;exact⟨rfl,rfl⟩
theorem Fx(w:aa)(M E:Nat)(n:Int)(k6:Cl w M 6 (Pt E))(b:Cl w E 1 (Jn 200)):
  cl 120 #[Pt M,Jn n] w (bD (dR 9) w):=by
 go_enter func120,ntmps120;go_wp2;go_ret;exact⟨rfl,rfl⟩
theorem Jp(w:aa)(M E gf:Nat)(n:Int)(d:Nat)(f:d<200)(g:M<w.heap.size)(k6:Cl w M 6 (Pt E))(e:w.frozen? (dq M 6)=false)(k3:Cl w M 3 (Pt gf))(c:Cl w E 1 (Jn d)):
  cl 120 #[Pt M,Jn n] w (bD .nilIface (((w.setCell (dq M 6) (Pt w.heap.size)).alloc (.cells #[Pt E,Jn ((d:Int)+1),Pt gf,Jn n,.pointer none] 115)).drew)):=by
 have b:((d:Int)==200)=false:=by simp;omega
 go_enter func120,ntmps120;go_wp2;go_region;go_wp2;go_ret;exact⟨rfl,rfl⟩
theorem sA(w:aa)(M E gf:Nat)(n pc:Int)(old:al)(k6:Cl w M 6 (Pt E))(k1:Cl w M 1 (Jn pc))(k3:Cl w M 3 old)(b:w.frozen? (dq M 1)=false)(c:w.frozen? (dq M 3)=false)(e3:Cl w E 3 (Jn n))(e2:Cl w E 2 (Pt gf)):
  cl 197 #[Pt M] w (bD (.tuple #[]) ((w.setCell (dq M 1) (Jn n)).setCell (dq M 3) (Pt gf)).drew):=by
 go_enter func197,ntmps197;go_wp2;go_region;go_wp2;refine TT ?_;exact⟨rfl,rfl⟩
theorem Bn(w:aa)(M E:Nat)(n pc:Int)(q:a8)(t:bi)(x:al)(r:Bool)(b:E≠M)(k6:Cl w M 6 (Pt E))(e:w.frozen? (dq M 6)=false)(c:Cl w E 0 (.pointer q))(k2:Cl w M 2 (.iface t x))(k1:Cl w M 1 (Jn pc))(d:w.frozen? (dq M 1)=false)(f:∀W,(Go.binOp .eql 81 (.iface t x) (.iface 131 (.bool false))).run prog W=.ok (.bool r) W):
  cl 124 #[Pt M,Jn n] w (bD .nilIface (if r then(w.setCell (dq M 6) (.pointer q)).setCell (dq M 1) (Jn n) else w.setCell (dq M 6) (.pointer q))):=by
 cases r<;>
 .go_enter func124,ntmps124;go_wp2;go_ret;exact⟨rfl,rfl⟩
theorem G9(w:aa)(M E gf:Nat)(m n pc:Int)(old:al)(k6:Cl w M 6 (Pt E))(k1:Cl w M 1 (Jn pc))(k3:Cl w M 3 old)(b:w.frozen? (dq M 1)=false)(c:w.frozen? (dq M 3)=false)(e3:Cl w E 3 (Jn n))(e2:Cl w E 2 (Pt gf)):
  cl 129 #[Pt M,Jn m] w (bD .nilIface ((w.setCell (dq M 1) (Jn n)).setCell (dq M 3) (Pt gf)).drew):=by
 go_enter func129,ntmps129;go_wp2_with fail;refine(sA w M E gf n pc old k6 k1 k3 b c e3 e2).mono ?_;rintro e w1 ⟨rfl,rfl⟩;go_wp2;go_ret;exact⟨rfl,rfl⟩
theorem zc(w:aa)(M E gf:Nat)(n pc:Int)(t:bi)(x old f:al)(b:E≠M)(k6:Cl w M 6 (Pt E))(k1:Cl w M 1 (Jn pc))(k2:Cl w M 2 f)(k3:Cl w M 3 old)(c:w.frozen? (dq M 1)=false)(g:w.frozen? (dq M 2)=false)(d:w.frozen? (dq M 3)=false)(e3:Cl w E 3 (Jn n))(e2:Cl w E 2 (Pt gf)):
  cl 212 #[Pt M,.iface t x] w (bD (.tuple #[]) (((w.setCell (dq M 2) (.iface t x)).setCell (dq M 1) (Jn n)).setCell (dq M 3) (Pt gf)).drew):=by
 go_enter func212,ntmps212;go_wp2_with fail;refine(sA _ M E gf n pc old ((kx _ _ _ _ (by simp)).trans k6) ((kx _ _ _ _ (by simp)).trans k1) ((kx _ _ _ _ (by simp)).trans k3) ((St _ _ _ _).trans c) ((St _ _ _ _).trans d) ((kx _ _ _ _ (by simp)).trans e3) ((kx _ _ _ _ (by simp[S6 b])).trans e2)).mono ?_;rintro e w1 ⟨rfl,rfl⟩;go_wp2;refine TT ?_;exact⟨rfl,rfl⟩
theorem gM(w:aa)(M:Nat)(s:Int)(b:Cl w M 8 (Jn s)):
  cl 52 #[Pt M] w (bD (.bool (s==0)) w):=by
 go_enter func52,ntmps52;go_wp2;go_ret;exact⟨rfl,rfl⟩
def nu(w:aa)(M:Nat)(st er a:Int)(b:ao):aa:=
 ((((((((((w.setCell ⟨M,8,none⟩ (.int .i64 st)).setCell ⟨M,9,none⟩ (.int .i64 er)).setCell ⟨M,10,none⟩ (.int .i64 a)).setCell ⟨M,11,none⟩ (.string b)).setCell ⟨M,1,none⟩ (.int .i64 0)).setCell ⟨M,2,none⟩ .nilIface).setCell ⟨M,3,none⟩ (.pointer none)).setCell ⟨M,4,none⟩ .nilIface).setCell ⟨M,5,none⟩ (.slice none 0 0)).setCell ⟨M,6,none⟩ (.pointer none)).alloc (.cells #[.int .i64 st,.int .i64 er,.int .i64 a,.string b] 52)
theorem AB(w:aa)(M:Nat)(c1 c2 c3 d e f g i c10 c11:al)(st er b:Int)(c:ao)(j:M<w.heap.size)(k1:Cl w M 1 c1)(k2:Cl w M 2 c2)(k3:Cl w M 3 c3)(l:Cl w M 4 d)(m:Cl w M 5 e)(k6:Cl w M 6 f)(q:Cl w M 8 g)(r:Cl w M 9 i)(k10:Cl w M 10 c10)(k11:Cl w M 11 c11)(hf:∀o,w.frozen? (dq M o)=false):
  cl 51 #[Pt M,.agg #[Jn st,Jn er,Jn b,.string c]] w (bD (.tuple #[]) (nu w M st er b c)):=by
 go_enter func51,ntmps51;go_wp2;refine TT ?_;exact⟨rfl,rfl⟩
theorem xy(w:aa)(M:Nat)(top:a8)(e:M<w.heap.size)(k6:Cl w M 6 (.pointer top)):
  cl 216 #[Pt M] w (bD (Pt (w.heap.size+2)) (((w.alloc (.cells #[Pt M] 73)).alloc (.cells #[.pointer top] 111)).alloc (.cells #[.string ⟨#[119,104,97,116,32,99,97,108,108,47,99,99,32,103,97,118,101]⟩,Jn 1,.func (.func 231) #[] #[Pt (w.heap.size+1),Pt w.heap.size]] 220))):=by
 have d:∀(c:Fn) (first b:bc) (w:aa),(Instr.makeFunc c first b).run prog w=.ok (.func c first b) w:=λ_ _ _ _=>rfl;go_enter func216,ntmps216;go_wp2;go_ret;exact⟨rfl,rfl⟩
theorem dt(s:ao)(k:Nat)(h:k<s.size):s.data.toList.drop k=s[k]::s.data.toList.drop (k+1):=by
 rw[K1 (by simpa using h)];rfl
theorem mO(s:ao)(k:Nat)(h:s.size<=k):s.data.toList.drop k=[]:=by
 rw[List.drop_eq_nil_iff];simpa using h
theorem dP(s:ao):s.data.toList.length=s.size:=by simp
def cF(l:au)(i:Nat):Nat:=i+cX true (l.drop i)
theorem kX(s:ao)(k:Nat)(h:k<s.size)(c:s[k].toNat=32\/s[k].toNat=10):aJ s.data.toList (k+1)=aJ s.data.toList k:=by
 simp only[aJ];rw[dt s k h];simp only[cX];rw[fN c];omega
theorem xx(s:ao)(k:Nat)(h:k<s.size)(c:s[k].toNat=59):cF s.data.toList k=aJ s.data.toList k:=by
 simp only[aJ,cF];rw[dt s k h];simp only[cX];rw[fb (by omega),fb (by omega),fN c]
theorem Ed(s:ao)(k:Nat)(h:k<s.size)(c1:¬s[k].toNat=32)(c2:¬s[k].toNat=10)(c3:¬s[k].toNat=59):aJ s.data.toList k=k:=by
 simp only[aJ];rw[dt s k h];simp only[cX];rw[fb (by omega),fb c3];rfl
theorem Az(s:ao)(k:Nat)(h:s.size<=k):aJ s.data.toList k=k:=by
 simp only[aJ];rw[mO s k h];rfl
theorem P4(s:ao)(k:Nat)(h:k<s.size)(c:s[k].toNat=10):aJ s.data.toList k=cF s.data.toList k:=by
 simp only[aJ,cF];rw[dt s k h];simp only[cX];rw[fN (by omega),fN c]
theorem OA(s:ao)(k:Nat)(h:s.size<=k):aJ s.data.toList k=cF s.data.toList k:=by
 simp only[aJ,cF];rw[mO s k h];rfl
theorem NQ(s:ao)(k:Nat)(h:k<s.size)(c:¬s[k].toNat=10):cF s.data.toList (k+1)=cF s.data.toList k:=by
 simp only[cF];rw[dt s k h];simp only[cX];rw[fb c];omega
theorem kV:∀(l:au) (b:Bool),cX b l<=l.length
 |[],b=>by simp[cX]
 |c::r,false=>by
  have h1:=kV r false;have h2:=kV r true;simp only[cX,j1];split
  .omega
  .split<;>omega
 |c::r,true=>by
  have h1:=kV r false;have h2:=kV r true;simp only[cX,j1];split<;>omega
theorem im(l:au)(i:Nat)(h:i<=l.length):aJ l i<=l.length:=by
 have:=kV (l.drop i) false;simp at this;unfold aJ;omega
theorem fe(l:au)(i:Nat):i<=aJ l i:=by unfold aJ;omega
theorem sJ(s:ao)(i:Nat)(w:aa)(hi:i<=s.size)(F:s.size<=1000):
  cl 63 #[.string s,Jn i] w λe w'=>e=.returned (Jn (aJ s.data.toList i))/\w'=w:=by
 go_enter func63,ntmps63;go_wp2
 go_loop [1] (λv=>∃k:Nat,k<=s.size/\v=Jn k/\aJ s.data.toList k=aJ s.data.toList i) (λv=>s.size-(intOf v).toNat)
 case atStart=>exact⟨i,hi,rfl,rfl⟩
 case round=>
  obtain⟨k,E,rfl,c⟩:=hrel;have b:Hid (aJ s.data.toList k=aJ s.data.toList i):=c;clear c;by_cases hlt:k<s.size
  .by_cases c1:s[k].toNat=32
   .have b1:((s[k].toNat:Int)==32)=true:=by rw[xb];omega
    have t:Hid (s[k].toNat=32):=c1;clear c1;go_wp2
    go_round
    case rel=>exact⟨k+1,by omega,by go_num,by rw[kX s k hlt (RP t.out)];exact b.out⟩
    case measure=>simp[intOf];omega
   have b1:((s[k].toNat:Int)==32)=false:=by rw[j2];omega
   by_cases c2:s[k].toNat=10
   .have b2:((s[k].toNat:Int)==10)=true:=by rw[xb];omega
    have l:Hid (s[k].toNat=10):=c2;clear c1 c2;go_wp2
    go_round
    case rel=>exact⟨k+1,by omega,by go_num,by rw[kX s k hlt (RA l.out)];exact b.out⟩
    case measure=>simp[intOf];omega
   have b2:((s[k].toNat:Int)==10)=false:=by rw[j2];omega
   by_cases c3:s[k].toNat=59
   .have r:((s[k].toNat:Int)==59)=true:=by rw[xb];omega
    have u:Hid (s[k].toNat=59):=c3;have l:Hid (¬s[k].toNat=10):=c2;clear c1 c2 c3;have z:Hid (cF s.data.toList k=aJ s.data.toList i):=by show _=_;rw[xx s k hlt u.out];exact b.out
    go_wp2
    go_loop [1] (λv=>∃j:Nat,k<=j/\j<=s.size/\v=Jn j/\cF s.data.toList j=aJ s.data.toList i) (λv=>s.size-(intOf v).toNat)
    case atStart=>exact⟨k,ew _,by omega,rfl,z.out⟩
    case round=>
     obtain⟨j,q,D,rfl,c⟩:=hrel;have m:Hid (cF s.data.toList j=aJ s.data.toList i):=c;clear c b1 b2 r;by_cases d:j<s.size
     .by_cases g:s[j].toNat=10
      .have A:((s[j].toNat:Int) !=10)=false:=by simp;omega
       have f:Hid (s[j].toNat=10):=g;clear g;have C:k<j:=by
        rcases P5 q with h|h
        .exact h
        .subst h;exact absurd f.out l.out
       go_wp2
       go_round
       case rel=>exact⟨j,by omega,rfl,by rw[P4 s j d f.out];exact m.out⟩
       case measure=>simp[intOf];omega
      .have A:((s[j].toNat:Int) !=10)=true:=by simp;omega
       have f:Hid (¬s[j].toNat=10):=g;clear g;go_wp2
       go_round
       case rel=>exact⟨j+1,by omega,by omega,by go_num,by rw[NQ s j d f.out];exact m.out⟩
       case measure=>simp[intOf];omega
     .go_wp2
      go_round
      case rel=>exact⟨j,by omega,rfl,by rw[OA s j (by omega)];exact m.out⟩
      case measure=>simp[intOf];omega
   .have r:((s[k].toNat:Int)==59)=false:=by rw[j2];omega
    have y:Hid (aJ s.data.toList k=k):=Ed s k hlt c1 c2 c3;clear c1 c2 c3;go_wp2;go_ret;exact⟨bL (by rw[<-b.out,y.out]),rfl⟩
  .go_wp2;go_ret;exact⟨bL (by rw[<-b.out,Az s k (by omega)]),rfl⟩
theorem ag(h:p):Hid p:=h
def az(k n:Int)(s:ao)(p:a8):bc:= #[.int .i64 k,.int .i64 n,.string s,.pointer p,.pointer none]
def aZ:ao:=⟨#[]⟩
def yn:D->Option bc
 |.lit (.int .i64 k)=>some (az 1 k aZ none)
 |.lit (.bool b)=>some (az 2 (if b then 1 else 0) aZ none)
 |.lit (.string t)=>some (az 3 0 ⟨t.toArray⟩ none)
 |.nil=>some (az 0 0 aZ none)
 |_=>none
theorem lz(s:ao)(k:Nat)(h:k<s.size):s.data.toList.take (k+1)=s.data.toList.take k++[s[k]]:=by
 rw[mn (by simpa using h)];rfl
def kg(s:ao)(k:Nat):Bool:=gS (s.data.toList.take k)
def dh(s:ao)(f k:Nat):Bool:=decide (f<s.size)&&((s.data.toList.take k).drop f).all λc=>cY c==1
def gV(s:ao)(f k:Nat):Int:=oU 0 ((s.data.toList.take k).drop f)
theorem rG(s:ao)(k:Nat)(h:k<s.size):kg s (k+1)=(kg s k||bZ s[k].toNat==3):=by
 unfold kg gS;rw[lz s k h,List.any_append];simp[cY]
theorem si(s:ao)(f k:Nat)(h:k<s.size)(hf:f<=k):dh s f (k+1)=(dh s f k&&bZ s[k].toNat==1):=by
 unfold dh;rw[lz s k h,SL (by simp;omega),SP];simp[cY,Sx]
theorem sg(s:ao)(f k:Nat)(hf:k<f):dh s f (k+1)=dh s f k:=by
 unfold dh;rw[So (by simp;omega),So (by simp;omega)]
theorem AS(x y:au):∀a,oU a (x++y)=oU (oU a x) y:=by
 induction x with
 |nil=>intro a;rfl
 |cons c r b=>intro a;exact b _
theorem oV(s:ao)(f k:Nat)(h:k<s.size)(hf:f<=k):gV s f (k+1)=10 *gV s f k+(s[k].toNat:Int)-48:=by
 unfold gV;rw[lz s k h,SL (by simp;omega),AS];simp only[oU];omega
theorem oE(s:ao)(f:Nat):dh s f s.size=TK (s.data.toList.drop f):=by
 unfold dh TK;rw[s9 (by simp)];by_cases h:f<s.size
 .simp only[h,decide_true,Bool.true_and];rw[show(List.drop f s.data.toList).isEmpty=false from by rw[dt s f h];rfl];rfl
 .simp only[h,TE,Bool.false_and];rw[show(List.drop f s.data.toList).isEmpty=true from by rw[mO s f (by omega)];rfl];rfl
theorem E6(s:ao):kg s s.size=gS s.data.toList:=by
 unfold kg;rw[s9 (by simp)]
theorem Ky(s:ao)(f:Nat):gV s f s.size=val (s.data.toList.drop f):=by
 unfold gV val;rw[s9 (by simp)]
theorem vg{b:Int}(h:(bZ b==1)=true):48<=b/\b<=57:=by
 unfold bZ at h;by_cases d:iG b=true
 .simp[iG] at d;omega
 .rw[fb d] at h;exfalso;revert h;split<;>(try split)<;>(try split)<;>simp
theorem BG(s:ao)(f k:Nat)(b:k<s.size)(hf:f<=k)(h:dh s f s.size=true):48<=(s[k].toNat:Int)/\(s[k].toNat:Int)<=57:=by
 rw[oE] at h;simp only[TK,rr,RT] at h;apply vg;apply h.2;rw[List.mem_iff_getElem?];exact⟨k-f,by rw[Sn,show f+(k-f)=k from by omega,fA (by simpa using b)];rfl⟩
def Gr(n:Nat):Int:=10^n
theorem zY(n:Nat):Gr (n+1)=10 *Gr n:=by unfold Gr;rw[Int.pow_succ];omega
theorem Cy:∀{n m:Nat},n<=m->Gr n<=Gr m
 |n,0,h=>by rw[show n=0 from by omega];exact Tc _
 |n,m+1,h=>by
  rcases P5 h with g|g
  .have:=Cy (n:=n) (m:=m) (by omega);have b:0<Gr m:=by unfold Gr;exact Int.pow_pos (by omega)
   rw[zY];omega
  .rw[g];exact Tc _
theorem xJ(s:ao)(f:Nat)(h:dh s f s.size=true):∀k,f<=k->k<=s.size->0<=gV s f k/\gV s f k<Gr (k-f)
 |0,hf,_=>by rw[show f=0 from by omega];simp[gV,oU,Gr]
 |k+1,hf,c=>by
  rcases P5 hf with g|g
  .have d:=xJ s f h k (by omega) (by omega);have b:=BG s f k (by omega) (by omega) h;rw[oV s f k (by omega) (by omega),show k+1-f=(k-f)+1 from by omega,zY];omega
  .unfold gV;rw[<-g,So (by simp;omega)];simp[oU,Gr]
theorem vp(s:ao)(f k:Nat)(h:dh s f s.size=true)(hf:f<=k)(c:k<s.size)(b:s.size-f<=18):0<=gV s f k/\gV s f k<100000000000000000:=by
 have h1:=xJ s f h k hf (by omega);have h2:=Cy (n:=k-f) (m:=17) (by omega);have:Gr 17=100000000000000000:=by decide
 omega
theorem vq(s:ao)(f:Nat)(h:dh s f s.size=true)(hf:f<=s.size)(b:s.size-f<=18):0<=gV s f s.size/\gV s f s.size<1000000000000000000:=by
 have h1:=xJ s f h s.size hf (by omega);have h2:=Cy (n:=s.size-f) (m:=18) (by omega);have:Gr 18=1000000000000000000:=by decide
 omega
def gF(s:ao)(e:bo):Prop:=∃cs:bc,(∃k m b p,cs=az k m b p)/\e=.returned (.tuple #[.agg cs,.bool (ig s.data.toList).isSome])/\∀d,ig s.data.toList=some d->yn d=some cs
theorem jn(s:ao)(b:0<s.size):s.data.toList=s[0]::s.data.toList.drop 1:=by
 have:=dt s 0 b;simpa using this
theorem Ds(s:ao)(b:0<s.size)(f:Nat)(hf:f<=1)(hm:((s[0].toNat:Int)==45)=decide (f=1)):body s.data.toList=s.data.toList.drop f/\TL s.data.toList=decide (f=1):=by
 have e:TL s.data.toList=decide (f=1):=by
  rw[jn s b,<-hm];simp only[TL];rw[C2];simp;omega
 refine⟨?_,e⟩;unfold body;rw[e];by_cases h:f=1
 .subst h;simp
 .rw[show f=0 from by omega];simp
theorem oT(s:ao)(x:au)(h:(s.toList==x)=false):¬s.data.toList=x:=by
 rw[C3] at h;simpa using h
theorem xG(s:ao)(x:au)(h:(s.toList==x)=true):s.data.toList=x:=by
 rw[C3] at h;simpa using h
theorem AJ(s:ao)(b:0<s.size)(f:Nat)(hf:f<=1)(c:(s.toList==[35,116])=false)(d:(s.toList==[35,102])=false)(hm:((s[0].toNat:Int)==45)=decide (f=1))(h:dh s f s.size=true):ig s.data.toList=if 18<s.size-f then none else some (num (if f=1 then-gV s f s.size else gV s f s.size)):=by
 obtain⟨b1,b2⟩:=Ds s b f hf hm;rw[oE] at h;unfold ig;rw[fb (oT s _ c),fb (oT s _ d),b1,b2,fN h,Ky];simp
theorem Kq(s:ao)(b:0<s.size)(f:Nat)(hf:f<=1)(c:(s.toList==[35,116])=false)(d:(s.toList==[35,102])=false)(hm:((s[0].toNat:Int)==45)=decide (f=1))(h:dh s f s.size=false):ig s.data.toList=if bZ s[0].toNat==1||kg s s.size then none else some (sym s.data.toList):=by
 obtain⟨b1,b2⟩:=Ds s b f hf hm;rw[oE] at h;unfold ig;rw[fb (oT s _ c),fb (oT s _ d),b1,fb (by simp[h]),E6,show od s.data.toList=(bZ s[0].toNat==1) from by rw[jn s b];rfl]
theorem Aa(s:ao)(g:0<s.size)(f:Nat)(hf:f<=1)(j:(s.toList==[35,116])=false)(l:(s.toList==[35,102])=false)(hm:((s[0].toNat:Int)==45)=decide (f=1))(h:dh s f s.size=true)(b:¬18<s.size-f)(n:Int)(i:n=if f=1 then-gV s f s.size else gV s f s.size):
  gF s (.returned (.tuple #[.agg (az 1 n aZ none),.bool true])):=by
 have e:=AJ s g f hf j l hm h;rw[fb b,<-i] at e;refine⟨_,⟨_,_,_,_,rfl⟩,by rw[e];rfl,λd c=> ?_⟩;rw[e] at c;cases c;rfl
theorem uP(s:ao)(g:0<s.size)(f:Nat)(hf:f<=1)(i:(s.toList==[35,116])=false)(j:(s.toList==[35,102])=false)(hm:((s[0].toNat:Int)==45)=decide (f=1))(h:dh s f s.size=true)(b:18<s.size-f):
  gF s (.returned (.tuple #[.agg (az 0 0 aZ none),.bool false])):=by
 have e:=AJ s g f hf i j hm h;rw[fN b] at e;exact⟨_,⟨_,_,_,_,rfl⟩,by rw[e];rfl,λd c=>by rw[e] at c;cases c⟩
theorem Ab(s:ao)(g:0<s.size)(f:Nat)(hf:f<=1)(i:(s.toList==[35,116])=false)(j:(s.toList==[35,102])=false)(hm:((s[0].toNat:Int)==45)=decide (f=1))(h:dh s f s.size=false)(b:Bool)(hb:b= !(bZ s[0].toNat==1||kg s s.size)):
  gF s (.returned (.tuple #[.agg (az 3 0 s none),.bool b])):=by
 have e:=Kq s g f hf i j hm h;refine⟨az 3 0 s none,⟨_,_,_,_,rfl⟩,?_,λd c=> ?_⟩
 .rw[e,hb];cases (bZ s[0].toNat==1||kg s s.size)<;>rfl
 .rw[e] at c;split at c
  .cases c
  .cases c;rfl
theorem Fz(s:ao)(c:(s.toList==[35,116])=true):gF s (.returned (.tuple #[.agg (az 2 1 aZ none),.bool true])):=by
 have e:=xG s _ c;exact⟨_,⟨_,_,_,_,rfl⟩,by rw[e];rfl,λd b=>by rw[e] at b;cases b;rfl⟩
theorem CE(s:ao)(c:(s.toList==[35,102])=true):gF s (.returned (.tuple #[.agg (az 2 0 aZ none),.bool true])):=by
 have e:=xG s _ c;exact⟨_,⟨_,_,_,_,rfl⟩,by rw[e];rfl,λd b=>by rw[e] at b;cases b;rfl⟩
theorem C6(s:ao)(w:aa)(b:(s.toList==[35,116])=true):
  cl 108 #[.string s] w λe w'=>gF s e/\Below w.heap.size w w':=by
 go_enter func108,ntmps108;go_wp2;exact ff (v:=.tuple #[.agg (az 2 1 aZ none),.bool true]) (by simp[results,results108,go_sem,az,aZ]) rfl ⟨Fz s b,(fL _ _).alloc (ew _) _⟩
theorem AN(s:ao)(w:aa)(c:(s.toList==[35,116])=false)(b:(s.toList==[35,102])=true):
  cl 108 #[.string s] w λe w'=>gF s e/\Below w.heap.size w w':=by
 go_enter func108,ntmps108;go_wp2;exact ff (v:=.tuple #[.agg (az 2 0 aZ none),.bool true]) (by simp[results,results108,go_sem,az,aZ]) rfl ⟨CE s b,(fL _ _).alloc (ew _) _⟩
theorem wE(g:h=true):Value.bool true=Value.bool (h||x):=by rw[g];rfl
theorem wD(g:¬h=true):Value.bool x=Value.bool (h||x):=by rw[Tp.2 g];rfl
theorem Jf{n:Int}(g:(n !=1)=true):Value.bool false=Value.bool (o&&n==1):=by
 rw[show(n==1)=false from by simpa using g];simp
theorem Jg{n:Int}(g:(n !=1)=false):Value.bool o=Value.bool (o&&n==1):=by
 rw[show(n==1)=true from by simpa using g];simp
theorem Jd(s:ao)(f:Nat)(h:f<s.size):Value.bool true=Value.bool (dh s f 0):=by simp[dh,h]
theorem Je(s:ao):Value.bool (decide ((1:Int)<s.size))=Value.bool (dh s 1 0):=by
 simp only[dh,List.take_zero,List.drop_nil,List.all_nil,TC]
 congr 1;rw[decide_eq_decide];omega
theorem Ks(s:ao)(w:aa)(m:0<s.size)(M:s.size<=1000)(z:(s.toList==[35,116])=false)(A:(s.toList==[35,102])=false)(hm:((s[0].toNat:Int)==45)=decide (0=1)):
  cl 108 #[.string s] w λe w'=>gF s e/\Below w.heap.size w w':=by
 have E:=Aa s m 0 (by decide) z A hm;have D:=uP s m 0 (by decide) z A hm;have F:=Ab s m 0 (by decide) z A hm;have d:=ag E;have q:=ag D;have f:=ag F;clear E D F;simp only[decide_true,TE,Nat.zero_ne_one] at hm;go_enter func108,ntmps108;go_wp2
 go_loop [5,6,8] (λo h i=>∃k:Nat,k<=s.size/\i=Jn k/\h=.bool (kg s k)/\o=.bool (dh s 0 k)) (λ_ _ i=>s.size-(intOf i).toNat)
 case atStart=>exact⟨0,kc _,rfl,rfl,by first|exact Jd s _ m|exact Je s⟩
 case round=>
  obtain⟨k,l,rfl,rfl,rfl⟩:=hrel;by_cases hlt:k<s.size
  .have C:=ag (rG s k hlt);have G:=ag (si s 0 k hlt);have H:=ag (sg s 0 k);by_cases b:0<=k
   .go_wp2_with (go_at_call 107;refine(gO _ _).mono ?_;rintro e w' ⟨rfl,rfl⟩)
    all_goals
     go_round
     case rel=>exact⟨k+1,by omega,by go_num,by rw[C.out];first|exact wE (by assumption)|exact wD (by assumption),by rw[G.out b];first|exact Jf (by assumption)|exact Jg (by assumption)⟩
     case measure=>simp[intOf];omega
   .have j:k<0:=by omega
    go_wp2_with (go_at_call 107;refine(gO _ _).mono ?_;rintro e w' ⟨rfl,rfl⟩)
    all_goals
     go_round
     case rel=>exact⟨k+1,by omega,by go_num,by rw[C.out];first|exact wE (by assumption)|exact wD (by assumption),by rw[H.out j]⟩
     case measure=>simp[intOf];omega
  .have l:k=s.size:=by omega
   subst l;go_wp2_with (go_at_call 107;refine(gO _ _).mono ?_;rintro e w' ⟨rfl,rfl⟩)
   .have ho:dh s 0 s.size=true:=by assumption
    refine ff (v:=.tuple #[.agg (az 0 0 aZ none),.bool false]) (by simp[results,results108,go_sem,aZ,az]) rfl ⟨q.out ho (by omega),(fL _ _).alloc (ew _) _⟩
   .have ho:dh s 0 s.size=true:=by assumption
    have g:s.size-0<=18:=by omega
    have r:0<=s.size:=by omega
    have c:=ag ho
    go_loop [7,10] (λn i=>∃k:Nat,0<=k/\k<=s.size/\i=Jn k/\n=Jn (gV s 0 k)) (λ_ i=>s.size-(intOf i).toNat)
    case atStart=>exact⟨0,by omega,by omega,rfl,by simp[gV,oU]⟩
    case round=>
     obtain⟨k,b,l,rfl,rfl⟩:=hrel;by_cases hlt:k<s.size
     .have t:=vp s 0 k c.out b hlt g;have J:=BG s 0 k hlt b c.out;have I:=ag (oV s 0 k hlt b);obtain⟨u,y⟩:=t;obtain⟨K,L⟩:=J;go_wp2
      go_round
      case rel=>exact⟨k+1,by omega,by omega,by go_num,by rw[I.out]⟩
      case measure=>simp[intOf];omega
     .have l:k=s.size:=by omega
      subst l;have t:=vq s 0 c.out r g;obtain⟨u,y⟩:=t;go_wp2
      first
       |exact ff (v:=.tuple #[.agg (az 1 (gV s 0 s.size) aZ none),.bool true]) (by simp[results,results108,go_sem,az,aZ]) rfl ⟨d.out c.out (by omega) _ rfl,(fL _ _).alloc (ew _) _⟩
       |exact ff (v:=.tuple #[.agg (az 1 (-(gV s 0 s.size)) aZ none),.bool true]) (by simp[results,results108,go_sem,az,aZ]) rfl ⟨d.out c.out (by omega) _ rfl,(fL _ _).alloc (ew _) _⟩
   .have ho:dh s 0 s.size=false:=by assumption
    have h1:bZ s[0].toNat=1:=by assumption
    refine ff (v:=.tuple #[.agg (az 3 0 s none),.bool false]) (by simp[results,results108,go_sem,az]) rfl ⟨f.out ho _ (by rw[h1];rfl),(fL _ _).alloc (ew _) _⟩
   .have ho:dh s 0 s.size=false:=by assumption
    refine ff (v:=.tuple #[.agg (az 3 0 s none),.bool (bZ s[0].toNat !=1&& !kg s s.size)]) (by simp[results,results108,go_sem,az]) rfl ⟨f.out ho _ (by rw[Bool.not_or];rfl),(fL _ _).alloc (ew _) _⟩
theorem Kt(s:ao)(w:aa)(m:0<s.size)(M:s.size<=1000)(z:(s.toList==[35,116])=false)(A:(s.toList==[35,102])=false)(hm:((s[0].toNat:Int)==45)=decide (1=1)):
  cl 108 #[.string s] w λe w'=>gF s e/\Below w.heap.size w w':=by
 have E:=Aa s m 1 (by decide) z A hm;have D:=uP s m 1 (by decide) z A hm;have F:=Ab s m 1 (by decide) z A hm;have d:=ag E;have q:=ag D;have f:=ag F;clear E D F;simp only[decide_true,TE,Nat.zero_ne_one] at hm;go_enter func108,ntmps108;go_wp2
 go_loop [5,6,8] (λo h i=>∃k:Nat,k<=s.size/\i=Jn k/\h=.bool (kg s k)/\o=.bool (dh s 1 k)) (λ_ _ i=>s.size-(intOf i).toNat)
 case atStart=>exact⟨0,kc _,rfl,rfl,by first|exact Jd s _ m|exact Je s⟩
 case round=>
  obtain⟨k,l,rfl,rfl,rfl⟩:=hrel;by_cases hlt:k<s.size
  .have C:=ag (rG s k hlt);have G:=ag (si s 1 k hlt);have H:=ag (sg s 1 k);by_cases b:1<=k
   .go_wp2_with (go_at_call 107;refine(gO _ _).mono ?_;rintro e w' ⟨rfl,rfl⟩)
    all_goals
     go_round
     case rel=>exact⟨k+1,by omega,by go_num,by rw[C.out];first|exact wE (by assumption)|exact wD (by assumption),by rw[G.out b];first|exact Jf (by assumption)|exact Jg (by assumption)⟩
     case measure=>simp[intOf];omega
   .have j:k<1:=by omega
    go_wp2_with (go_at_call 107;refine(gO _ _).mono ?_;rintro e w' ⟨rfl,rfl⟩)
    all_goals
     go_round
     case rel=>exact⟨k+1,by omega,by go_num,by rw[C.out];first|exact wE (by assumption)|exact wD (by assumption),by rw[H.out j]⟩
     case measure=>simp[intOf];omega
  .have l:k=s.size:=by omega
   subst l;go_wp2_with (go_at_call 107;refine(gO _ _).mono ?_;rintro e w' ⟨rfl,rfl⟩)
   .have ho:dh s 1 s.size=true:=by assumption
    refine ff (v:=.tuple #[.agg (az 0 0 aZ none),.bool false]) (by simp[results,results108,go_sem,aZ,az]) rfl ⟨q.out ho (by omega),(fL _ _).alloc (ew _) _⟩
   .have ho:dh s 1 s.size=true:=by assumption
    have g:s.size-1<=18:=by omega
    have r:1<=s.size:=by omega
    have c:=ag ho
    go_loop [7,10] (λn i=>∃k:Nat,1<=k/\k<=s.size/\i=Jn k/\n=Jn (gV s 1 k)) (λ_ i=>s.size-(intOf i).toNat)
    case atStart=>exact⟨1,by omega,by omega,rfl,by simp[gV,oU]⟩
    case round=>
     obtain⟨k,b,l,rfl,rfl⟩:=hrel;by_cases hlt:k<s.size
     .have t:=vp s 1 k c.out b hlt g;have J:=BG s 1 k hlt b c.out;have I:=ag (oV s 1 k hlt b);obtain⟨u,y⟩:=t;obtain⟨K,L⟩:=J;go_wp2
      go_round
      case rel=>exact⟨k+1,by omega,by omega,by go_num,by rw[I.out]⟩
      case measure=>simp[intOf];omega
     .have l:k=s.size:=by omega
      subst l;have t:=vq s 1 c.out r g;obtain⟨u,y⟩:=t;go_wp2
      first
       |exact ff (v:=.tuple #[.agg (az 1 (gV s 1 s.size) aZ none),.bool true]) (by simp[results,results108,go_sem,az,aZ]) rfl ⟨d.out c.out (by omega) _ rfl,(fL _ _).alloc (ew _) _⟩
       |exact ff (v:=.tuple #[.agg (az 1 (-(gV s 1 s.size)) aZ none),.bool true]) (by simp[results,results108,go_sem,az,aZ]) rfl ⟨d.out c.out (by omega) _ rfl,(fL _ _).alloc (ew _) _⟩
   .have ho:dh s 1 s.size=false:=by assumption
    have h1:bZ s[0].toNat=1:=by assumption
    refine ff (v:=.tuple #[.agg (az 3 0 s none),.bool false]) (by simp[results,results108,go_sem,az]) rfl ⟨f.out ho _ (by rw[h1];rfl),(fL _ _).alloc (ew _) _⟩
   .have ho:dh s 1 s.size=false:=by assumption
    refine ff (v:=.tuple #[.agg (az 3 0 s none),.bool (bZ s[0].toNat !=1&& !kg s s.size)]) (by simp[results,results108,go_sem,az]) rfl ⟨f.out ho _ (by rw[Bool.not_or];rfl),(fL _ _).alloc (ew _) _⟩
theorem Ge(s:ao)(w:aa)(b:0<s.size)(c:s.size<=1000):
  cl 108 #[.string s] w λe w'=>gF s e/\Below w.heap.size w w':=by
 cases t1:(s.toList==[35,116]) with
 |true=>exact C6 s w t1
 |false=>
  cases t2:(s.toList==[35,102]) with
  |true=>exact AN s w t1 t2
  |false=>
   cases hm:((s[0].toNat:Int)==45) with
   |false=>exact Ks s w b c t1 t2 hm
   |true=>exact Kt s w b c t1 t2 hm
def Er(w:aa)(M f:Nat)(T:bi):aa:=(w.alloc (.cells #[.pointer (some ⟨M,0,none⟩)] 73)).alloc (.cells #[.func (.func f) #[.pointer (some ⟨M,0,none⟩)] #[]] T)
theorem iA(w:aa)(M f:Nat):cl 159 #[Pt M,.func (.func f) #[Pt M] #[]] w (bD (.func (.func 211) #[] #[Pt w.heap.size,Pt (w.heap.size+1)]) (Er w M f 285)):=by
 have d:∀(c:Fn) (first b:bc) (w:aa),(Instr.makeFunc c first b).run prog w=.ok (.func c first b) w:=λ_ _ _ _=>rfl;go_enter func159,ntmps159;go_wp2;go_ret;exact⟨rfl,rfl⟩
theorem uN(w:aa)(M f:Nat):cl 165 #[Pt M,.func (.func f) #[Pt M] #[]] w (bD (.func (.func 213) #[] #[Pt w.heap.size,Pt (w.heap.size+1)]) (Er w M f 287)):=by
 have d:∀(c:Fn) (first b:bc) (w:aa),(Instr.makeFunc c first b).run prog w=.ok (.func c first b) w:=λ_ _ _ _=>rfl;go_enter func165,ntmps165;go_wp2;go_ret;exact⟨rfl,rfl⟩
theorem sd(w:aa)(M f:Nat):cl 167 #[Pt M,.func (.func f) #[Pt M] #[]] w (bD (.func (.func 214) #[] #[Pt w.heap.size,Pt (w.heap.size+1)]) (Er w M f 289)):=by
 have d:∀(c:Fn) (first b:bc) (w:aa),(Instr.makeFunc c first b).run prog w=.ok (.func c first b) w:=λ_ _ _ _=>rfl;go_enter func167,ntmps167;go_wp2;go_ret;exact⟨rfl,rfl⟩
theorem oC(w:aa)(M f:Nat):cl 170 #[Pt M,.func (.func f) #[Pt M] #[]] w (bD (.func (.func 215) #[] #[Pt w.heap.size,Pt (w.heap.size+1)]) (Er w M f 291)):=by
 have d:∀(c:Fn) (first b:bc) (w:aa),(Instr.makeFunc c first b).run prog w=.ok (.func c first b) w:=λ_ _ _ _=>rfl;go_enter func170,ntmps170;go_wp2;go_ret;exact⟨rfl,rfl⟩
structure aB(S:a9)(w w':aa):Prop where
 os:w'.os=w.os
 tape:w'.tape=w.tape
 output:w'.output=w.output
 size:w.heap.size<=w'.heap.size
 block:∀k,k<w.heap.size->¬S k->w'.heap[k]? =w.heap[k]?
theorem aB.refl(S:a9)(w:aa):aB S w w:=⟨rfl,rfl,rfl,ew _,λ_ _ _=>rfl⟩
def TU:=@aB.refl
theorem aB.trans{w:aa}(h:aB S w w1)(k:aB S' w1 w2)(d:∀j,j<w.heap.size->S' j->S j):aB S w w2:=
 ⟨k.os.trans h.os,k.tape.trans h.tape,k.output.trans h.output,ku h.size k.size,λj b c=>(k.block j (gr b h.size) (λx=>c (d j b x))).trans (h.block j b c)⟩
theorem aB.aj{w:aa}(S:a9)(h:Below w.heap.size w w'):aB S w w':=⟨h.os,h.tape,h.output,h.size,λk b _=>h.block k b⟩
def TW:=@aB.aj
theorem aB.below{w:aa}(h:aB S w w')(hB:B<=w.heap.size)(hS:∀k,S k->B<=k):Below B w w':=
 ⟨h.os,h.tape,h.output,h.size,λk b=>h.block k (by omega) (λx=>by have:=hS k x;omega)⟩
theorem aB.mono{w:aa}(h:aB S w w')(d:∀j,S j->S' j):aB S' w w':=⟨h.os,h.tape,h.output,h.size,λk b c=>h.block k b (λx=>c (d k x))⟩
theorem aB.grown{w:aa}{row:Option Nat}(h:aB S w w1)(g:w1.grownBy w' row)(f:∀k,row=some k->k<w.heap.size->S k):aB S w w':=
 h.trans (S':=λk=>row=some k) ⟨g.os,g.tape,g.output,g.size,λk c d=>g.block k c (λe=>d e.symm)⟩ (λj b i=>f j i b)
def T2:=@aB.grown
theorem aB.alloc{w:aa}(h:aB S w w1)(o:Obj):aB S w (w1.alloc o):=
 h.trans (S':=λ_=>False) ⟨rfl,rfl,rfl,by simp,λk b _=>tm _ _ _ b⟩ (λ_ _ x=>x.elim)
theorem aB.setCell{w:aa}(h:aB S w w1)(p:Addr)(u:al)(hp:p.block<w.heap.size->S p.block):aB S w (w1.setCell p u):=
 h.trans (S':=λk=>k=p.block) ⟨rfl,rfl,rfl,by simp[World.setCell],λk d c=>R6 _ _ _ _ c⟩ (λj b x=>by subst x;exact hp b)
theorem aB.drew{w:aa}(h:aB S w w1):aB S w w1.drew:=⟨h.os,h.tape,h.output,h.size,h.block⟩
theorem aB.drewN{w:aa}(h:aB S w w1)(n:Nat):aB S w (w1.drewN n):=⟨h.os,h.tape,h.output,h.size,h.block⟩
def aC(T:bi)(w w':aa):Prop:=∀(b:Nat) (c:bc),w.heap[b]? =some (Obj.cells c T (0,0))->w'.heap[b]? =some (Obj.cells c T (0,0))
theorem ai{w:aa}{b:Nat}{o:Obj}(h:w.heap[b]? =some o):b<w.heap.size:=by
 rcases sb b w.heap.size with hlt|c
 .exact hlt
 .rw[S7 c] at h;cases h
theorem aC.aT{w:aa}(h:aB S w w')(d:∀k c,S k->¬w.heap[k]? =some (Obj.cells c T (0,0))):aC T w w':=by
 intro b c hb;rw[h.block b (ai hb) (λx=>d b c x hb)];exact hb
def T1:=@aC.aT
theorem aC.aj{w:aa}(h:Below w.heap.size w w'):aC T w w':=by
 intro b c hb;rw[h.block b (ai hb)];exact hb
def TX:=@aC.aj
theorem aC.trans{a b c:aa}(h:aC T a b)(k:aC T b c):aC T a c:=λx y z=>k x y (h x y z)
theorem aC.refl(a:aa):aC T a a:=λx y z=>z
def TY:=@aC.refl
inductive sV{α:Type}(A:α->Prop)(P:α->Nat->α->α->Prop):Nat->Nat->α->Prop
 |atom (lo hi:Nat) (v:α):lo<=hi->A v->sV A P lo hi v
 |pair (lo m b hi:Nat) (v v1 a:α):P v b v1 a->sV A P lo m v1->sV A P m b a->b<hi->sV A P lo hi v
def eN{α:Type}(A:α->Prop)(P:α->Nat->α->α->Prop):Nat->List α->Nat->Prop
 |lo,[],hi=>lo<=hi
 |lo,v::r,hi=>∃m,sV A P lo m v/\eN A P m r hi
theorem sV.le{A:α->Prop}{P:α->Nat->α->α->Prop}{lo hi:Nat}{v:α}(h:sV A P lo hi v):lo<=hi:=by
 induction h with
 |atom _ _ _ h _=>exact h
 |pair _ _ _ _ _ _ _ _ _ _ h ih1 ih2=>omega
theorem sV.hi{A:α->Prop}{P:α->Nat->α->α->Prop}{lo hi:Nat}{v:α}(h:sV A P lo hi v)(c:hi<=hi'):sV A P lo hi' v:=by
 cases h with
 |atom _ _ _ h h2=>exact .atom _ _ _ (ku h c) h2
 |pair _ m b _ _ v1 e h1 h2 h3 d=>exact .pair lo m b hi' v v1 e h1 h2 h3 (gr d c)
theorem sV.lo{A:α->Prop}{P:α->Nat->α->α->Prop}{lo hi:Nat}{v:α}(h:sV A P lo hi v):∀{lo':Nat},lo'<=lo->sV A P lo' hi v:=by
 induction h with
 |atom _ _ _ h h2=>exact λc=>.atom _ _ _ (ku c h) h2
 |pair _ m b _ v v1 e h1 h2 h3 d ih1 ih2=>exact λc=>.pair _ m b _ v v1 e h1 (ih1 c) h3 d
theorem sV.ak{A:α->Prop}{P P':α->Nat->α->α->Prop}(k:∀v b v1 c,P v b v1 c->P' v b v1 c){lo hi:Nat}{v:α}(h:sV A P lo hi v):sV A P' lo hi v:=by
 induction h with
 |atom _ _ _ h h2=>exact .atom _ _ _ h h2
 |pair _ m b _ v v1 c h1 _ _ d ih1 ih2=>exact .pair _ m b _ v v1 c (k _ _ _ _ h1) ih1 ih2 d
theorem eN.ak{A:α->Prop}{P P':α->Nat->α->α->Prop}(k:∀v b v1 d,P v b v1 d->P' v b v1 d):∀{vs:List α} {lo hi hi':Nat},eN A P lo vs hi->hi<=hi'->eN A P' lo vs hi'
 |[],_,_,_,h,c=>ku h c
 |_::_,_,_,_,⟨m,h1,h2⟩,c=>⟨m,h1.ak k,eN.ak k h2 c⟩
theorem eN.le{A:α->Prop}{P:α->Nat->α->α->Prop}:∀{vs:List α} {lo hi:Nat},eN A P lo vs hi->lo<=hi
 |[],_,_,h=>h
 |_::_,_,_,⟨_,h1,h2⟩=>ku h1.le (eN.le h2)
theorem eN.lo{A:α->Prop}{P:α->Nat->α->α->Prop}:∀{vs:List α} {lo lo' hi:Nat},eN A P lo vs hi->lo'<=lo->eN A P lo' vs hi
 |[],_,_,_,h,b=>ku b h
 |_::_,_,_,_,⟨m,h1,h2⟩,b=>⟨m,h1.lo b,h2⟩
theorem eN.split{A:α->Prop}{P:α->Nat->α->α->Prop}:∀{a b:List α} {lo hi:Nat},eN A P lo (a++b) hi->∃m,eN A P lo a m/\eN A P m b hi
 |[],_,lo,_,h=>⟨lo,ew _,h⟩
 |_::_,_,_,_,⟨m,h1,h2⟩=>by
  obtain⟨q,h3,c⟩:=eN.split h2;exact⟨q,⟨m,h1,h3⟩,c⟩
theorem eN.join{A:α->Prop}{P:α->Nat->α->α->Prop}:∀{a b:List α} {lo m hi:Nat},eN A P lo a m->eN A P m b hi->eN A P lo (a++b) hi
 |[],_,_,_,_,h,k=>k.lo h
 |_::_,_,_,_,_,⟨m,h1,h2⟩,k=>⟨m,h1,eN.join h2 k⟩
theorem eN.one{A:α->Prop}{P:α->Nat->α->α->Prop}{lo hi:Nat}{v:α}(h:sV A P lo hi v):eN A P lo [v] hi:=⟨hi,h,ew _⟩
def AtR(c:bc):Prop:=∀b,c≠az 5 0 aZ (eb b)
def qg(w:aa)(c:bc)(b:Nat)(c1 c2:bc):Prop:=c=az 5 0 aZ (eb b)/\w.heap[b]? =some (Obj.cells (c1++c2) 162 (0,0))/\c1.size=5
abbrev Gp(w:aa):Nat->Nat->bc->Prop:=sV AtR (qg w)
abbrev ko(w:aa):Nat->List bc->Nat->Prop:=eN AtR (qg w)
theorem qg.ak{w:aa}(k:aC 162 w w')(v:bc)(b:Nat)(v1 c:bc)(h:qg w v b v1 c):qg w' v b v1 c:=⟨h.1,k _ _ h.2.1,h.2.2⟩
def dd(w:aa)(R:bc->D->Prop):bc->List D->Prop
 |cs,[]=>cs=az 4 0 aZ none
 |cs,d::r=>∃b c1 c2,cs=az 5 0 aZ (some ⟨b,0,none⟩)/\w.heap[b]? =some (Obj.cells (c1++c2) 162 (0,0))/\c1.size=5/\c2.size=5/\R c1 d/\dd w R c2 r
def RV(w:aa):Nat->bc->D->Prop
 |0,_,_=>False
 |n+1,cs,.agg l=>l.length<=1000/\dd w (RV w n) cs l
 |_+1,cs,d=>yn d=some cs
def dT(w:aa)(n:Nat):List bc->List D->Prop
 |[],[]=>True
 |c::cs,d::ds=>c.size=5/\RV w n c d/\dT w n cs ds
 |_,_=>False
theorem dd.ak{w:aa}{R f:bc->D->Prop}(k:aC 162 w w')(hR:∀c d,R c d->f c d):∀(l:List D) (cs:bc),dd w R cs l->dd w' f cs l
 |[],cs,h=>h
 |d::r,cs,⟨b,c1,c2,e,hb,h1,h2,g,i⟩=>⟨b,c1,c2,e,k _ _ hb,h1,h2,hR _ _ g,dd.ak k hR r c2 i⟩
theorem RV.ak{w:aa}(k:aC 162 w w'):∀(n:Nat) (cs:bc) (d:D),RV w n cs d->RV w' n cs d
 |0,_,_,h=>h.elim
 |n+1,cs,.agg l,h=>⟨h.1,dd.ak k (RV.ak k n) l cs h.2⟩
 |n+1,cs,.lit _,h=>h
 |n+1,cs,.nil,h=>h
 |n+1,cs,.ptr _,h=>h
 |n+1,cs,.slice _ _,h=>h
 |n+1,cs,.iface _ _,h=>h
 |n+1,cs,.map _,h=>h
 |n+1,cs,.held _,h=>h
theorem dT.ak{w:aa}(k:aC 162 w w')(n:Nat):∀(cs:List bc) (ds:List D),dT w n cs ds->dT w' n cs ds
 |[],[],h=>h
 |c::cs,d::ds,h=>⟨h.1,RV.ak k n c d h.2.1,dT.ak k n cs ds h.2.2⟩
 |[],_::_,h=>h.elim
 |_::_,[],h=>h.elim
theorem dd.mono{w:aa}{R b:bc->D->Prop}(hR:∀c d,R c d->b c d)(l:List D)(cs:bc)(h:dd w R cs l):dd w b cs l:=dd.ak (TY w) hR l cs h
theorem RV.up{w:aa}:∀(n:Nat) (cs:bc) (d:D),RV w n cs d->RV w (n+1) cs d
 |0,_,_,h=>h.elim
 |n+1,cs,.agg l,h=>⟨h.1,dd.mono (RV.up n) l cs h.2⟩
 |n+1,cs,.lit _,h=>h
 |n+1,cs,.nil,h=>h
 |n+1,cs,.ptr _,h=>h
 |n+1,cs,.slice _ _,h=>h
 |n+1,cs,.iface _ _,h=>h
 |n+1,cs,.map _,h=>h
 |n+1,cs,.held _,h=>h
theorem dT.length{w:aa}:∀{cs:List bc} {ds:List D},dT w n cs ds->cs.length=ds.length
 |[],[],_=>rfl
 |c::cs,d::ds,h=>by simp[dT.length h.2.2]
 |[],_::_,h=>h.elim
 |_::_,[],h=>h.elim
theorem dT.append{w:aa}:∀{cs:List bc} {ds:List D} {b:List bc} {e:List D},dT w n cs ds->dT w n b e->dT w n (cs++b) (ds++e)
 |[],[],_,_,_,f=>f
 |c::cs,d::ds,_,_,h,f=>⟨h.1,h.2.1,dT.append h.2.2 f⟩
 |[],_::_,_,_,h,_=>h.elim
 |_::_,[],_,_,h,_=>h.elim
def flat(a:List bc):a7:=a.flatMap Array.toList
theorem qp{w:aa}:∀{cs:List bc} {ds:List D} (h:dT w n cs ds) (k:Nat) (b:k<ds.length),∃c,cs[k]? =some c/\c.size=5/\RV w n c ds[k]/\∀j,j<5->(flat cs)[k *5+j]? =c[j]?
 |[],[],_,k,b=>absurd b (by simp)
 |c::cs,d::ds,h,0,_=>⟨c,rfl,h.1,h.2.1,λj e=>by
   simp only[flat,Ps];rw[o5 (by simp[h.1];omega)];simp⟩
 |c::cs,d::ds,h,k+1,b=>by
  obtain⟨f,h1,h2,h3,g⟩:=qp h.2.2 k (by simpa using b);refine⟨f,by simpa using h1,h2,h3,λj e=> ?_⟩;rw[<-g j e];simp only[flat,Ps];rw[s7 (by simp[h.1];omega)]
  congr 1;simp[h.1];omega
 |[],_::_,h,_,_=>h.elim
 |_::_,[],h,_,_=>h.elim
theorem Hl(c:bc)(h:c.size=5):∃f g i j m,c= #[f,g,i,j,m]:=by
 rcases c with⟨l⟩;simp at h
 match l,h with
 |[a,b,c,d,e],_=>exact⟨a,b,c,d,e,rfl⟩
theorem RV.form{w:aa}:∀(n:Nat) (cs:bc) (d:D),RV w n cs d->∃k m s p,cs=az k m s p
 |0,_,_,h=>h.elim
 |n+1,cs,.agg [],h=>⟨_,_,_,_,h.2⟩
 |n+1,cs,.agg (_::_),h=>by obtain⟨b,c1,c2,e,_⟩:=h.2;exact⟨_,_,_,_,e⟩
 |n+1,cs,.lit (.int k m),h=>by
  cases k<;>first|(cases h;done)|(have h:some _=some cs:=h;cases h;exact⟨_,_,_,_,rfl⟩)
 |n+1,cs,.lit (.bool _),h=>by have h:some _=some cs:=h;cases h;exact⟨_,_,_,_,rfl⟩
 |n+1,cs,.lit (.string _),h=>by have h:some _=some cs:=h;cases h;exact⟨_,_,_,_,rfl⟩
 |n+1,cs,.lit (.float _ _),h=>by cases h
 |n+1,cs,.lit .nil,h=>by cases h
 |n+1,cs,.nil,h=>by have h:some _=some cs:=h;cases h;exact⟨_,_,_,_,rfl⟩
 |n+1,cs,.ptr _,h=>by cases h
 |n+1,cs,.slice _ _,h=>by cases h
 |n+1,cs,.iface _ _,h=>by cases h
 |n+1,cs,.map _,h=>by cases h
 |n+1,cs,.held _,h=>by cases h
def T7:=@RV.form
end Go.Proofs.YtlobegpjenabaaaGreatDoor
