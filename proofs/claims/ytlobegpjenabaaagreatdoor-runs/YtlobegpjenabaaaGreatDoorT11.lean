import Derived.Test.YtlobegpjenabaaaGreatDoorT10
import Derived.Lib.AppendStr
import Derived.Lib.ItoaLen
import Derived.Lib.SlBytesRow
import Derived.Laws.BytesArg
namespace Go.Proofs.YtlobegpjenabaaaGreatDoor
open Go.RowKit Tryz
set_option linter.unusedVariables false
set_option linter.defProp false
set_option maxRecDepth 100000
set_option maxHeartbeats 4000000
def C1:=@Array.getElem?_toList
def R8:=@List.take_append_of_le_length
def SQ:=@Nat.sub_self
variable {w':aa} {B T cap:Nat} {m:Nat->Nat} {t s r y:au} {e:bo} {a:a8}
inductive V where
 |int (k:Int)
 |bool (b:Bool)
 |sym (s:au)
 |empty
 |nothing
 |pair (id:Nat) (a b:V)
 |proc (id:Nat)
def AO:V->au
 |.int k=>Lib.itoa k
 |.bool true=>[35,116]
 |.bool false=>[35,102]
 |.sym s=>s
 |.empty=>[40,41]
 |.nothing=>[35,110]
 |.pair _ _ _=>[]
 |.proc _=>[35,112]
def iE:Bool->V->au
 |false,.pair _ a b=>40::(iE false a++iE true b)
 |true,.pair _ a b=>32::(iE false a++iE true b)
 |true,.empty=>[41]
 |true,v=>[32,46,32]++AO v++[41]
 |false,v=>AO v
def bK(v:V):au:=iE false v
def VR(w:aa)(B:Nat)(m:Nat->Nat):V->al->Prop
 |.int k,v=>v=.iface 130 (.int .i64 k)/\-9223372036854775808<=k/\k<=9223372036854775807
 |.bool b,v=>v=.iface 131 (.bool b)
 |.sym s,v=>v=.iface 134 (.string ⟨s.toArray⟩)/\s.length<=8000
 |.empty,v=>v=.iface 207 (.agg #[])
 |.nothing,v=>v=.iface 259 (.agg #[])
 |.pair id a b,v=>v=.iface 136 (.pointer (some ⟨m id,0,none⟩))/\m id<B/\∃x y,w.heap[m id]? =some (Obj.cells #[x,y] 205 (0,0))/\VR w B m a x/\VR w B m b y
 |.proc id,v=>v=.iface 216 (.pointer (some ⟨m id,0,none⟩))/\m id<B
theorem VR.below{w:aa}(hb:Below B w w'):∀(v:V) (x:al),VR w B m v x->VR w' B m v x
 |.int k,v,h=>h
 |.bool b,v,h=>h
 |.sym s,v,h=>h
 |.empty,v,h=>h
 |.nothing,v,h=>h
 |.pair id a b,v,⟨h1,h2,x,y,h3,c,d⟩=>⟨h1,h2,x,y,by rw[hb.block _ h2];exact h3,VR.below hb a x c,VR.below hb b y d⟩
 |.proc id,v,h=>h
theorem VR.form{w:aa}:∀(v:V) (x:al),VR w B m v x->∃t y,x=.iface t y
 |.int k,v,h=>⟨_,_,h.1⟩
 |.bool b,v,h=>⟨_,_,h⟩
 |.sym s,v,h=>⟨_,_,h.1⟩
 |.empty,v,h=>⟨_,_,h⟩
 |.nothing,v,h=>⟨_,_,h⟩
 |.pair id a b,v,h=>⟨_,_,h.1⟩
 |.proc id,v,h=>⟨_,_,h.1⟩
def Tl(w:aa)(B T:Nat)(t:au):Prop:=B<=T/\∃u,w.heap[T]? =some (Obj.cells #[u] 335 (0,0))/\w.ownsRow B 5 1 u t.length (Lib.byteCells t)
def vK(w:aa)(B T:Nat)(t:au)(e:bo)(w':aa):Prop:=e=.returned (.tuple #[])/\Tl w' B T t/\Below B w w'
theorem OK:(prog.info? 5).map (λi=>(i.zero,i.size,i.bytes))=some (some (.int .u8 0),1,1):=by kernel_rfl
theorem fM{w:aa}(h:Tl w B T t)(c:t.length<=1000000):
  cl 233 #[Pt T] w λe w'=>e=.returned (.bool (decide (100<=t.length)))/\w'=w:=by
 obtain⟨hB,u,hS,b⟩:=h;obtain⟨a,cap,rfl,_,_,_⟩:=ay b;have c0:=ae hS 0;simp only[fD,fy] at c0;clear b;go_enter func233,ntmps233;go_wp2;go_ret;refine⟨aS ?_,rfl⟩;simp;omega
theorem gR{w:aa}(s:ao)(h:Tl w B T t)(G:t.length<=1000000)(H:s.size<=1000000):
  cl 236 #[Pt T,.string s] w (vK w B T (t++s.data.toList)):=by
 obtain⟨hB,u,hS,v⟩:=h;have d7:B<=w.heap.size:=Sk (RI hB (ai hS));have p:=ag v;have A:=ag hS;obtain⟨E,hi,j,l,n⟩:=sv OK;have o:=ag (ei hi (ei j (ei l n)));obtain⟨a,cap,rfl,_,_,_⟩:=ay v;have c0:=ae hS 0;simp only[fD,fy] at c0;have D:=ai hS;clear v hS hi j l n;go_enter func236,ntmps236;go_wp2_with (at_builtin;refine Lib.wpList_append_own_string _ rfl (.tmp 8) (.tmp 9) 72 9 rfl B 5 E underlying72 underlying9 o.out.1 o.out.2.1 o.out.2.2.1 o.out.2.2.2 _ t.length (Lib.byteCells t) rfl p.out s rfl (by unfold maxLen;omega) (by omega) d7 ?_);intro v1 w1 b c i;have x:=ag (T2 (TU (λk=>(Value.slice a t.length cap).ownBlock=some k) w) c (λk q _=>q));have d:=aM p.out x.out (T':=335) (by decide) _ _ A.out;have C:=ae d 0;simp only[fD,fy] at C;have f0:=ah d 0;have g:(t++s.data.toList).length=t.length+s.size:=by rw[ga,IT]
 have f:Lib.byteCells (t++s.data.toList)=Lib.byteCells t++Lib.strCells s:=by unfold Lib.byteCells Lib.strCells;rw[s8]
 have z:=ag (show vK w B T (t++s.data.toList) (.returned (.tuple #[])) (w1.setCell (dq T 0) v1) from
  ⟨rfl,⟨hB,v1,TH d,by rw[g,f];exact aA (aK d (by decide)) b⟩,(x.out.below d7 (by intro k q;exact(ar p.out q).1)).setCell hB _⟩)
 obtain⟨F,cap1,rfl,_,_,_⟩:=ay b;clear b c i d g f;go_wp2;refine TT ?_;exact z.out
open Go.Shelf
def wK:Go.Shelf.Ren:=⟨λ|176=>234|249=>246|288=>251|283=>254|284=>255|285=>256|286=>257|129=>259|317=>258|318=>260|319=>261|320=>262|337=>263|338=>264|n=>n,λ|37=>72|2=>2|3=>3|53=>338|4=>4|9=>9|171=>365|0=>0|173=>368|212=>371|51=>361|5=>5|20=>20|213=>372|46=>341|232=>375|233=>376|n=>n,λ|17=>4|18=>5|19=>6|n=>n⟩
theorem IR:Go.Proofs.LaysM.n176 prog wK:=by repeat' first|(intros;kernel_rfl)|constructor
open Go.RowKit Go.Sort Go.Lib in
theorem strconv_AppendInt_10(B n:Nat)(i:Int)(h: -9223372036854775808<=i)(h1:i<=9223372036854775807)(f:al)(xs:a7)(w:aa)(c:w.ownsRow B 5 1 f n xs)(d7:B<=w.heap.size)(b:n+21<=140737488355328)(d:Lib.TabBelow prog B w "internal/strconv.uint64pow10" .u64 Lib.pow10Tab):
  cl 234 #[f,Jn i,Jn 10] w λe w'=>∃g,e=.returned g/\w'.ownsRow B 5 1 g (n+(Lib.itoa i).length) (xs++Lib.byteCells (Lib.itoa i))/\Below B w w'/\Lib.OthersKept 5 none w w':=Any.strconv_AppendInt_10 IR B n i h h1 f xs w c d7 b d
def zB:Go.Shelf.Ren:=⟨λ|108=>177|n=>n,λ|28=>30|3=>3|0=>0|4=>4|n=>n,λ|n=>n⟩
theorem DO:Go.Proofs.Lays.n108 prog zB:=by repeat' first|(intros;kernel_rfl)|constructor
open Go.Lib in
theorem slices_Index_int(b d n c:Nat)(g:List Int)(x:Int)(w:aa)(i:n<=g.length)(f:n<=9223372036854775807)(h:∀j,j<g.length->Cl w b (d+j) (Jn (g.getD j 0))):
  cl 177 #[.slice (some (dq b d)) n c,Jn x] w λe w'=>e=.returned (Jn (Lib.idxOf (g.take n) x))/\w'=w:=Any.slices_Index_int DO b d n c g x w i f h
open Go.Lib in
theorem slices_Index_int_empty(a:a8)(c:Nat)(x:Int)(w:aa):
  cl 177 #[.slice a 0 c,Jn x] w λe w'=>e=.returned (Jn (Lib.idxOf [] x))/\w'=w:=Any.slices_Index_int_empty DO a c x w
def zC:Go.Shelf.Ren:=⟨λ|109=>101|n=>n,λ|31=>26|9=>9|3=>3|0=>0|4=>4|n=>n,λ|n=>n⟩
theorem DP:Go.Proofs.Lays.n109 prog zC:=by repeat' first|(intros;kernel_rfl)|constructor
open Go.Lib in
theorem slices_Index_string(b d n c:Nat)(g:List ao)(x:ao)(w:aa)(i:n<=g.length)(f:n<=9223372036854775807)(h:∀j,j<g.length->Cl w b (d+j) (.string (g.getD j ByteArray.empty))):
  cl 101 #[.slice (some (dq b d)) n c,.string x] w λe w'=>e=.returned (Jn (Lib.idxOfS (g.take n) x))/\w'=w:=Any.slices_Index_string DP b d n c g x w i f h
open Go.Lib in
theorem slices_Index_string_empty(a:a8)(c:Nat)(x:ao)(w:aa):
  cl 101 #[.slice a 0 c,.string x] w λe w'=>e=.returned (Jn (Lib.idxOfS [] x))/\w'=w:=Any.slices_Index_string_empty DP a c x w
def tF:Go.Shelf.Ren:=⟨λ|16=>103|n=>n,λ|24=>26|9=>9|4=>4|n=>n,λ|n=>n⟩
theorem uG:Go.Proofs.Lays2.n16 prog tF:=by repeat' first|(intros;kernel_rfl)|constructor
open Go.RowKit Go.Lib in
theorem slices_Clone_string(b d n c:Nat)(g:List ao)(w:aa)(k:n<=g.length)(f:n *16<=140737488355328)(i:∀j,j<g.length->Cl w b (d+j) (.string (g.getD j ByteArray.empty))):
  cl 103 #[.slice (some (dq b d)) n c] w λe w'=>∃h,e=.returned h/\w'.ownsRow w.heap.size 9 1 h n ((g.take n).map (Value.string))/\h≠.slice none 0 0/\Below w.heap.size w w':=Any.slices_Clone_string uG b d n c g w k f i
open Go.RowKit Go.Lib in
theorem slices_Clone_string_nil(n c:Nat)(w:aa):
  cl 103 #[.slice none n c] w λe w'=>e=.returned (.slice none 0 0)/\w'=w:=Any.slices_Clone_string_nil uG n c w
def sU(t s:au):Prop:=t.take 100=s.take 100/\(t.length<100->t=s)
theorem sU.refl(t:au):sU t t:=⟨rfl,λ_=>rfl⟩
theorem vi(a x:au)(h:100<=a.length):(a++x).take 100=a.take 100:=by
 rw[R8 h]
theorem sU.long(h:sU t s)(b:100<=t.length):100<=s.length:=by
 have:=Sq List.length h.1;rw[RE,RE] at this;omega
theorem sU.full(h:sU t s)(b:100<=t.length)(x y:au):sU (t++x) (s++y):=
 ⟨by rw[vi t x b,vi s y (h.long b)];exact h.1,λc=>by rw[ga] at c;omega⟩
theorem sU.add(h:sU t s)(x:au):sU (t++x) (s++x):=by
 rcases sb t.length 100 with b|b
 .rw[h.2 b];exact sU.refl _
 .exact h.full b x x
theorem sU.trans(h:sU t s)(k:sU s r):sU t r:=⟨h.1.trans k.1,λb=>by
 have:=h.2 b;subst this;exact k.2 b⟩
def gN:V->Nat
 |.pair _ a b=>gN a+gN b+1
 |_=>0
abbrev Tab(B:Nat)(w:aa):Prop:=Lib.TabBelow prog B w "internal/strconv.uint64pow10" .u64 Lib.pow10Tab
theorem Tab.below{w:aa}(h:Tab B w)(hb:Below B w w'):Tab B w':=λc b=>h c (hb.trans b)
def cB(w:aa)(B T:Nat)(t:au)(x:au)(e:bo)(w':aa):Prop:=
 e=.returned (.tuple #[])/\(∃a,Tl w' B T a/\sU a (t++x)/\(100<=t.length->a=t)/\(t.length<100->a.length<=8200-t.length))/\Below B w w'
def GQ(N:Nat):Prop:=∀(v:V) (w:aa) (x:al) (B T:Nat) (m:Nat->Nat) (t:au),gN v<=N->VR w B m v x->Tl w B T t->t.length<=9000->Tab B w->cl 220 #[Pt T,x] w (cB w B T t (bK v))
theorem Ny(v:al)(w:aa):(Instr.typeAssert (.iface 131 v) 81 130 true).run prog w=.ok (.tuple #[Jn 0,.bool false]) w:=by kernel_rfl
theorem Gk(v:al)(w:aa):(Instr.typeAssert (.iface 134 v) 81 130 true).run prog w=.ok (.tuple #[Jn 0,.bool false]) w:=by kernel_rfl
theorem KB(v:al)(w:aa):(Instr.typeAssert (.iface 207 v) 81 130 true).run prog w=.ok (.tuple #[Jn 0,.bool false]) w:=by kernel_rfl
theorem Db(v:al)(w:aa):(Instr.typeAssert (.iface 259 v) 81 130 true).run prog w=.ok (.tuple #[Jn 0,.bool false]) w:=by kernel_rfl
theorem Nz(v:al)(w:aa):(Instr.typeAssert (.iface 136 v) 81 130 true).run prog w=.ok (.tuple #[Jn 0,.bool false]) w:=by kernel_rfl
theorem xN(v:al)(w:aa):(Instr.typeAssert (.iface 216 v) 81 130 true).run prog w=.ok (.tuple #[Jn 0,.bool false]) w:=by kernel_rfl
theorem Gj(v:al)(w:aa):(Instr.typeAssert (.iface 134 v) 81 131 true).run prog w=.ok (.tuple #[.bool false,.bool false]) w:=by kernel_rfl
theorem KA(v:al)(w:aa):(Instr.typeAssert (.iface 207 v) 81 131 true).run prog w=.ok (.tuple #[.bool false,.bool false]) w:=by kernel_rfl
theorem C9(v:al)(w:aa):(Instr.typeAssert (.iface 259 v) 81 131 true).run prog w=.ok (.tuple #[.bool false,.bool false]) w:=by kernel_rfl
theorem Nw(v:al)(w:aa):(Instr.typeAssert (.iface 136 v) 81 131 true).run prog w=.ok (.tuple #[.bool false,.bool false]) w:=by kernel_rfl
theorem xL(v:al)(w:aa):(Instr.typeAssert (.iface 216 v) 81 131 true).run prog w=.ok (.tuple #[.bool false,.bool false]) w:=by kernel_rfl
theorem KC(v:al)(w:aa):(Instr.typeAssert (.iface 207 v) 81 134 true).run prog w=.ok (.tuple #[.string ⟨#[]⟩,.bool false]) w:=by kernel_rfl
theorem Dc(v:al)(w:aa):(Instr.typeAssert (.iface 259 v) 81 134 true).run prog w=.ok (.tuple #[.string ⟨#[]⟩,.bool false]) w:=by kernel_rfl
theorem NB(v:al)(w:aa):(Instr.typeAssert (.iface 136 v) 81 134 true).run prog w=.ok (.tuple #[.string ⟨#[]⟩,.bool false]) w:=by kernel_rfl
theorem xP(v:al)(w:aa):(Instr.typeAssert (.iface 216 v) 81 134 true).run prog w=.ok (.tuple #[.string ⟨#[]⟩,.bool false]) w:=by kernel_rfl
theorem Da(v:al)(w:aa):(Instr.typeAssert (.iface 259 v) 81 207 true).run prog w=.ok (.tuple #[.agg #[],.bool false]) w:=by kernel_rfl
theorem Nx(v:al)(w:aa):(Instr.typeAssert (.iface 136 v) 81 207 true).run prog w=.ok (.tuple #[.agg #[],.bool false]) w:=by kernel_rfl
theorem xM(v:al)(w:aa):(Instr.typeAssert (.iface 216 v) 81 207 true).run prog w=.ok (.tuple #[.agg #[],.bool false]) w:=by kernel_rfl
theorem NA(v:al)(w:aa):(Instr.typeAssert (.iface 136 v) 81 259 true).run prog w=.ok (.tuple #[.agg #[],.bool false]) w:=by kernel_rfl
theorem xO(v:al)(w:aa):(Instr.typeAssert (.iface 216 v) 81 259 true).run prog w=.ok (.tuple #[.agg #[],.bool false]) w:=by kernel_rfl
theorem nE(v:al)(w:aa):(Instr.typeAssert (.iface 216 v) 81 136 true).run prog w=.ok (.tuple #[.pointer none,.bool false]) w:=by kernel_rfl
theorem IJ(w:aa):(Instr.typeAssert (.iface 207 (.agg #[])) 81 207 true).run prog w=.ok (.tuple #[.agg #[],.bool true]) w:=by kernel_rfl
theorem B5(w:aa):(Instr.typeAssert (.iface 259 (.agg #[])) 81 259 true).run prog w=.ok (.tuple #[.agg #[],.bool true]) w:=by kernel_rfl
theorem L7(a:a8)(w:aa):(Instr.typeAssert (.iface 216 (.pointer a)) 81 216 true).run prog w=.ok (.tuple #[.pointer a,.bool true]) w:=by kernel_rfl
theorem Tl.below{w:aa}(h:Tl w B T t)(hb:Below w.heap.size w w'):Tl w' B T t:=by
 obtain⟨h1,u,h2,h3⟩:=h;exact⟨h1,u,TX hb _ _ h2,aA (TX hb) h3⟩
theorem Tl.le{w:aa}(h:Tl w B T t):B<=w.heap.size:=by
 obtain⟨h1,u,h2,h3⟩:=h;exact Sk (RI h1 (ai h2))
theorem vl(x y:au)(t:bi)(v:al)(w:aa)(B T:Nat)(h:Tl w B T x)(g:x.length<=9000)(b:100<=x.length):
  cl 220 #[Pt T,.iface t v] w (cB w B T x y):=by
 have c:=ag (fM h (by omega));have f:=ag h;have d:=ag b;clear h;rw[Sh b] at c;clear b;go_enter func220,ntmps220;go_wp2_with fail;refine c.out.mono ?_;rintro e w' ⟨rfl,rfl⟩;go_wp2;refine TT ?_;have hp:=(sU.refl x).full d.out [] y;rw[Sr] at hp;exact⟨rfl,⟨x,f.out,hp,λ_=>rfl,λh=>absurd h (by have:=d.out;omega)⟩,fL _ _⟩
theorem TO{w:aa}(h:vK w B T (t++y) e w')(b:t.length<100)(c:y.length<=8000):cB w B T t y e w':=
 ⟨h.1,⟨_,h.2.1,sU.refl _,λh=>absurd h (by omega),λ_=>by rw[ga];omega⟩,h.2.2⟩
theorem sM(x:au)(w:aa)(B T:Nat)(h:Tl w B T x)(d:x.length<100):
  cl 220 #[Pt T,.iface 207 (.agg #[])] w (cB w B T x [40,41]):=by
 have c:=ag (fM h (by omega));have f:=ag (λ(W:aa) (hb:Below w.heap.size w W)=>gR (w:=W) ⟨#[40,41]⟩ (h.below hb) (by omega) (by decide));have b:=ag h.le;have g:=ag d;have k:=KB;have h1:=KA;have h2:=KC;have h3:=IJ;rw[zd (by omega)] at c;clear h d;go_enter func220,ntmps220;go_wp2_with fail;refine c.out.mono ?_;rintro e w' ⟨rfl,rfl⟩;go_wp2_with fail;refine(f.out _ (by first|exact fL _ _|exact aR _ _|exact(aR _ _).alloc (by simp) _)).mono ?_;intro e j h2;have i:=ag (show cB w' B T x [40,41] e j from by
  have h3:=TO (t:=x) (y:=[40,41]) h2 g.out (by decide);exact⟨h3.1,h3.2.1,(by first|exact h3.2.2|exact((aR _ _).mono b.out).trans h3.2.2|exact(((aR _ _).alloc (by simp) _).mono b.out).trans h3.2.2)⟩)
 obtain⟨rfl,_,_⟩:=h2;go_wp2;refine TT ?_;exact i.out
theorem nw(x:au)(w:aa)(B T:Nat)(h:Tl w B T x)(d:x.length<100):
  cl 220 #[Pt T,.iface 259 (.agg #[])] w (cB w B T x [35,110]):=by
 have c:=ag (fM h (by omega));have f:=ag (λ(W:aa) (hb:Below w.heap.size w W)=>gR (w:=W) ⟨#[35,110]⟩ (h.below hb) (by omega) (by decide));have b:=ag h.le;have g:=ag d;have k:=Db;have h1:=C9;have h2:=Dc;have h3:=Da;have l:=B5;rw[zd (by omega)] at c;clear h d;go_enter func220,ntmps220;go_wp2_with fail;refine c.out.mono ?_;rintro e w' ⟨rfl,rfl⟩;go_wp2_with fail;refine(f.out _ (by first|exact fL _ _|exact aR _ _|exact(aR _ _).alloc (by simp) _)).mono ?_;intro e j h2;have i:=ag (show cB w' B T x [35,110] e j from by
  have h3:=TO (t:=x) (y:=[35,110]) h2 g.out (by decide);exact⟨h3.1,h3.2.1,(by first|exact h3.2.2|exact((aR _ _).mono b.out).trans h3.2.2|exact(((aR _ _).alloc (by simp) _).mono b.out).trans h3.2.2)⟩)
 obtain⟨rfl,_,_⟩:=h2;go_wp2;refine TT ?_;exact i.out
theorem vm(x:au)(w:aa)(B T:Nat)(a:a8)(h:Tl w B T x)(d:x.length<100):
  cl 220 #[Pt T,.iface 216 (.pointer a)] w (cB w B T x [35,112]):=by
 have c:=ag (fM h (by omega));have f:=ag (λ(W:aa) (hb:Below w.heap.size w W)=>gR (w:=W) ⟨#[35,112]⟩ (h.below hb) (by omega) (by decide));have b:=ag h.le;have g:=ag d;have k:=xN;have h1:=xL;have h2:=xP;have h3:=xM;have l:=xO;have n:=nE;have o:=L7;rw[zd (by omega)] at c;clear h d;go_enter func220,ntmps220;go_wp2_with fail;refine c.out.mono ?_;rintro e w' ⟨rfl,rfl⟩;go_wp2_with fail;refine(f.out _ (by first|exact fL _ _|exact aR _ _|exact(aR _ _).alloc (by simp) _)).mono ?_;intro e j h2;have i:=ag (show cB w' B T x [35,112] e j from by
  have h3:=TO (t:=x) (y:=[35,112]) h2 g.out (by decide);exact⟨h3.1,h3.2.1,(by first|exact h3.2.2|exact((aR _ _).mono b.out).trans h3.2.2|exact(((aR _ _).alloc (by simp) _).mono b.out).trans h3.2.2)⟩)
 obtain⟨rfl,_,_⟩:=h2;go_wp2;refine TT ?_;exact i.out
theorem AF(x y:au)(w:aa)(B T:Nat)(i:y.length<=8000)(h:Tl w B T x)(c:x.length<100):
  cl 220 #[Pt T,.iface 134 (.string ⟨y.toArray⟩)] w (cB w B T x y):=by
 have b:=ag (fM h (by omega));have d:=ag (gR (w:=w) ⟨y.toArray⟩ h (by omega) (by simp[ByteArray.size];omega));have f:=ag c;have h1:=Gk;have h2:=Gj;have h3:=qP;rw[zd (by omega)] at b;clear h c;go_enter func220,ntmps220;go_wp2_with fail;refine b.out.mono ?_;rintro e w' ⟨rfl,rfl⟩;go_wp2_with fail;refine d.out.mono ?_;intro e j h2;have g:=ag (TO (t:=x) (y:=y) h2 f.out i);obtain⟨rfl,_,_⟩:=h2;go_wp2;refine TT ?_;exact g.out
theorem AD(x:au)(b:Bool)(w:aa)(B T:Nat)(h:Tl w B T x)(g:x.length<100):
  cl 235 #[Pt T,.bool b] w (vK w B T (x++AO (.bool b))):=by
 cases b with
 |true=>
  have c:=ag (gR (w:=w) ⟨#[35,116]⟩ h (by omega) (by decide));clear h;go_enter func235,ntmps235;go_wp2_with fail;refine c.out.mono ?_;intro e f h2;have d:=ag h2;obtain⟨rfl,_,_⟩:=h2;go_wp2;refine TT ?_;exact d.out
 |false=>
  have c:=ag (gR (w:=w) ⟨#[35,102]⟩ h (by omega) (by decide));clear h;go_enter func235,ntmps235;go_wp2_with fail;refine c.out.mono ?_;intro e f h2;have d:=ag h2;obtain⟨rfl,_,_⟩:=h2;go_wp2;refine TT ?_;exact d.out
theorem vj(x:au)(b:Bool)(w:aa)(B T:Nat)(h:Tl w B T x)(c:x.length<100):
  cl 220 #[Pt T,.iface 131 (.bool b)] w (cB w B T x (AO (.bool b))):=by
 have d:=ag (fM h (by omega));have f:=ag (AD x b w B T h c);have g:=ag c;have j:=ag (show(AO (.bool b)).length<=8000 from by cases b<;>decide);have h1:=Ny;have h2:=qM;rw[zd (by omega)] at d;clear h c;go_enter func220,ntmps220;go_wp2_with fail;refine d.out.mono ?_;rintro e w' ⟨rfl,rfl⟩;go_wp2_with fail;refine f.out.mono ?_;intro e k h2;have i:=ag (TO h2 g.out j.out);obtain⟨rfl,_,_⟩:=h2;go_wp2;refine TT ?_;exact i.out
theorem AE(x:au)(k:Int)(w:aa)(B T:Nat)(n: -9223372036854775808<=k)(h1:k<=9223372036854775807)(h:Tl w B T x)(o:x.length<100)(p:Tab B w):
  cl 220 #[Pt T,.iface 130 (Jn k)] w (cB w B T x (Lib.itoa k)):=by
 have l:=ag (fM h (by omega));have d7:=h.le;obtain⟨hB,u,hS,j⟩:=h;have q:=ag (strconv_AppendInt_10 B x.length k n h1 u (Lib.byteCells x) w j d7 (by omega) p);have v:=ag o;have A:=ag hS;obtain⟨a,cap,rfl,_,_,_⟩:=ay j;have c0:=ae hS 0;simp only[fD,fy] at c0;have h2:=t8;rw[zd (by omega)] at l;clear o hS j p;go_enter func220,ntmps220;go_wp2_with fail;refine l.out.mono ?_;rintro e w' ⟨rfl,rfl⟩;go_wp2_with fail;refine q.out.mono ?_;rintro e E ⟨F,rfl,b,i,g⟩;have d:=g T _ A.out (by simp) (λc fz e=>by cases e);obtain⟨C,cap2,rfl,_,_,_⟩:=ay b;have D:=ae d 0;simp only[fD,fy] at D;have f0:=ah d 0;have f:Lib.byteCells (x++Lib.itoa k)=Lib.byteCells x++Lib.byteCells (Lib.itoa k):=by unfold Lib.byteCells;rw[s8]
 have z:=ag (show cB w' B T x (Lib.itoa k) (.returned (.tuple #[])) (E.setCell (dq T 0) (.slice C (x.length+(Lib.itoa k).length) cap2)) from
  TO ⟨rfl,⟨hB,_,TH d,by rw[ga,f];exact aA (aK d (by decide)) b⟩,i.setCell hB _⟩ v.out (by have:=Lib.itoa_length_le k n h1;omega))
 clear b i g d f;go_wp2;refine TT ?_;exact z.out
structure GI(w:aa)(B T:Nat)(m:Nat->Nat)(t g:au)(N:Nat)(wr:aa)(id:Nat)(b:V)(x y:al)(c s:au):Prop where
 hid:m id<B
 hp:wr.heap[m id]? =some (Obj.cells #[x,y] 205 (0,0))
 vb:VR wr B m b y
 sz:gN b<=N
 tl:Tl wr B T c
 pre:sU c s
 goal:s++iE true b=g
 len:t.length+1<=s.length
 lc:c.length<=8199-t.length
 bel:Below B w wr
def vJ(w:aa)(B T:Nat)(m:Nat->Nat)(t g:au)(N:Nat)(p:al)(wr:aa)(k:Nat):Prop:=
 ∃id b x y c s,p=Pt (m id)/\gN b=k/\GI w B T m t g N wr id b x y c s
def oj:V->Bool
 |.pair _ _ _=>true
 |_=>false
def vI(w:aa)(B T:Nat)(m:Nat->Nat)(t g:au)(N:Nat)(p:al)(wr:aa):Prop:=
 ∃id b x y c s,p=Pt (m id)/\(100<=c.length\/oj b=false)/\GI w B T m t g N wr id b x y c s
theorem pL(v:al)(w:aa):(Instr.typeAssert (.iface 259 v) 81 136 true).run prog w=.ok (.tuple #[.pointer none,.bool false]) w:=by kernel_rfl
def AG(w:aa)(T:Nat):Nat:=match w.cell? ⟨T,0,none⟩ with
 |some (.slice _ n _)=>n
 |_=>0
theorem Tl.AG{w:aa}(h:Tl w B T t):AG w T=t.length:=by
 obtain⟨hB,u,hS,b⟩:=h;obtain⟨a,cap,rfl,_,_,_⟩:=ay b;have c0:=ae hS 0;simp only[fD,fy] at c0;unfold Go.Proofs.YtlobegpjenabaaaGreatDoor.AG;rw[c0]
theorem sU.len(h:sU t s):min 100 s.length<=t.length:=by
 have:=Sq List.length h.1;rw[RE,RE] at this;omega
theorem VR.r7{w:aa}:∀(b:V) (y:al),VR w B m b y->oj b=false->∃t v,y=.iface t v/\∀w',(Instr.typeAssert (.iface t v) 81 136 true).run prog w'=.ok (.tuple #[.pointer none,.bool false]) w'
 |.int k,y,h,_=>⟨_,_,h.1,o8 _⟩
 |.bool b,y,h,_=>⟨_,_,h,mJ _⟩
 |.sym s,y,h,_=>⟨_,_,h.1,ky _⟩
 |.empty,y,h,_=>⟨_,_,h,iV _⟩
 |.nothing,y,h,_=>⟨_,_,h,pL _⟩
 |.pair _ _ _,y,h,hp=>by cases hp
 |.proc id,y,h,_=>⟨_,_,h.1,nE _⟩
theorem oA(v:al)(w:aa):(Go.binOp .neq 81 (.iface 259 v) (.iface 207 (.agg #[]))).run prog w=.ok (.bool true) w:=by kernel_rfl
theorem tG(v:al)(w:aa):(Go.binOp .neq 81 (.iface 216 v) (.iface 207 (.agg #[]))).run prog w=.ok (.bool true) w:=by kernel_rfl
def rQ:V->Bool
 |.empty=>true
 |_=>false
theorem VR.Mz{w:aa}:∀(b:V) (y:al),VR w B m b y->oj b=false->rQ b=false->∃t v,y=.iface t v/\∀w',(Go.binOp .neq 81 (.iface t v) (.iface 207 (.agg #[]))).run prog w'=.ok (.bool true) w'
 |.int k,y,h,_,_=>⟨_,_,h.1,m8 _⟩
 |.bool b,y,h,_,_=>⟨_,_,h,lU _⟩
 |.sym s,y,h,_,_=>⟨_,_,h.1,kj _⟩
 |.empty,y,h,_,c=>by cases c
 |.nothing,y,h,_,_=>⟨_,_,h,oA _⟩
 |.pair _ _ _,y,h,hp,_=>by cases hp
 |.proc id,y,h,_,_=>⟨_,_,h.1,tG _⟩
theorem Gf:∀(b:V),oj b=false->rQ b=false->iE true b=[32,46,32]++bK b++[41]
 |.int k,_,_=>rfl
 |.bool b,_,_=>rfl
 |.sym s,_,_=>rfl
 |.empty,_,c=>by cases c
 |.nothing,_,_=>rfl
 |.pair _ _ _,hp,_=>by cases hp
 |.proc id,_,_=>rfl
theorem MK(N:Nat)(hT:GQ N)(id:Nat)(a b:V)(w:aa)(B T:Nat)(m:Nat->Nat)(t:au)(x y:al)(hi:gN a+gN b<=N)(hid:m id<B)(hp:w.heap[m id]? =some (.cells #[x,y] 205))(ha:VR w B m a x)(hb:VR w B m b y)(h:Tl w B T t)(hl:t.length<100)(P:Tab B w):
  cl 237 #[Pt T,Pt (m id)] w (cB w B T t (bK (.pair id a b))):=by
 have Y:=ag (gR (w:=w) ⟨#[40]⟩ h (by omega) (by decide));have R:=ag hT;have HP:=ag hp;have hz:=ag ha;have hA:=ag hb;have D:=ag P;have p:=ag hl;obtain⟨tx,vx,rfl⟩:=VR.form _ _ ha;obtain⟨ty,vy,rfl⟩:=VR.form _ _ hb;have h6:=ag hi;have d7:=h.le;have HG:=ag (show bK (.pair id a b)=[40]++(bK a++iE true b) from rfl);obtain⟨g,hg⟩:∃g,g=bK (.pair id a b):=⟨_,rfl⟩;rw[<-hg] at HG;rw[<-hg];clear hp ha hb h P hT hi hg hl;go_enter func237,ntmps237;go_wp2_with fail;refine Y.out.mono ?_;rintro e w1 ⟨rfl,hj,F⟩;have hf:w1.heap[m id]? =some (.cells #[.iface tx vx,.iface ty vy] 205):=by rw[F.block _ hid];exact HP.out
 have c0:=ae hf 0;simp only[fD,fy] at c0;have h7:=ag (R.out a w1 (.iface tx vx) B T m (t++[40]) (by have:=h6.out;omega) (VR.below F _ _ hz.out) hj (by have:=p.out;simp;omega) (D.out.below F));have ho:=ag F;clear hj F Y hf;go_wp2_with fail;refine h7.out.mono ?_;rintro e w2 ⟨rfl,⟨t2,hm,J,hc,he⟩,h8⟩;have h5:=ag (show vJ w B T m t (t++g) N (Pt (m id)) w2 (gN b) from by
  have U:=ho.out.trans h8;refine⟨id,b,.iface tx vx,.iface ty vy,t2,t++[40]++bK a,rfl,rfl,hid,by rw[U.block _ hid];exact HP.out,VR.below U _ _ hA.out,by have:=h6.out;omega,hm,J,?_,?_,?_,U⟩
  .rw[HG.out];simp
  .simp
  .have h1:=p.out;rcases sb (t++[40]).length 100 with h|h
   .have:=he h;rw[ga] at this;simp at this;omega
   .have:=hc h;rw[this];simp at h ⊢;omega)
 clear hm J hc he h8 h7 c0
 go_upto_block 0 with fail
 go_cut [1] (λv wc=>vI w B T m t (t++g) N v wc)
 case first=>
  go_wp2_with fail
  go_loopw [1] (λv wr=>∃k,vJ w B T m t (t++g) N v wr k) (λv wr=>101-AG wr T)
  case atStart=>exact⟨_,h5.out⟩
  case round=>
   obtain⟨k,id2,b2,x2,y2,c2,s2,rfl,hk,c⟩:=hrel;have hB:c2.length<=8199:=by have:=c.lc;omega
   have l:=ag (fM c.tl (by omega));have d:=ag c;have hx:=ag c.tl.AG;by_cases f:100<=c2.length
   .rw[Sh f] at l;have C:=ag (show vI w B T m t (t++g) N (Pt (m id2)) wr from⟨id2,b2,x2,y2,c2,s2,rfl,RP f,c⟩);clear c hk f;go_wp2_with fail;refine l.out.mono ?_;rintro e w' ⟨rfl,rfl⟩;go_wp2
    go_meet
    case rel=>exact C.out
   .rw[zd f] at l;cases hib:oj b2 with
    |false=>
     obtain⟨ty2,vy2,rfl,hE⟩:=VR.r7 b2 y2 c.vb hib;have C:=ag (show vI w B T m t (t++g) N (Pt (m id2)) wr from⟨id2,b2,x2,_,c2,s2,rfl,RA hib,c⟩);have S:=ae c.hp 1;simp only[fD,fy,km] at S;clear c hk f hib d;go_wp2_with fail;refine l.out.mono ?_;rintro e w' ⟨rfl,rfl⟩;go_wp2
     go_meet
     case rel=>exact C.out
    |true=>
     match b2,hib,c,d with
     |.pair id3 a3 b3,_,c,d=>
      obtain⟨rfl,H,x3,y3,hh,va3,vb3⟩:=c.vb;obtain⟨tx3,vx3,rfl⟩:=VR.form _ _ va3;have hE:=qi;have S:=ae c.hp 1;simp only[fD,fy,km] at S;have i:=ag (gR (w:=wr) ⟨#[32]⟩ c.tl (by omega) (by decide));have H3:=ag (ei hh (ei va3 vb3));have h0:=ag (show gN a3<=N/\gN b3<=N from by have:=c.sz;simp only[gN] at this;omega);have hs:=ag (show c2.length<100/\c2=s2 from⟨by omega,c.pre.2 (by omega)⟩);clear c hk f hh va3 vb3;go_wp2_with fail;refine l.out.mono ?_;rintro e w' ⟨rfl,rfl⟩;go_wp2_with fail;refine i.out.mono ?_;rintro e O ⟨rfl,o,j⟩;have u:O.heap[m id3]? =some (.cells #[.iface tx3 vx3,y3] 205):=by rw[j.block _ H];exact H3.out.1
      have d0:=ae u 0;simp only[fD,fy] at d0;have E:=ag (R.out a3 O (.iface tx3 vx3) B T m (c2++[32]) h0.out.1 (VR.below j _ _ H3.out.2.1) o (by simp;omega) (D.out.below (d.out.bel.trans j)));have K:=ag j;have ht:=ag u;clear o j u i l;go_wp2_with fail;refine E.out.mono ?_;rintro e w6 ⟨rfl,⟨t6,z,n,G,I⟩,q⟩;have h4:=ag (show vJ w B T m t (t++g) N (Pt (m id3)) w6 (gN b3)/\101-AG w6 T<101-AG w' T from by
       have h1:=hs.out;have h2:=d.out.len;have h3:=d.out.goal;refine⟨⟨id3,b3,.iface tx3 vx3,y3,t6,s2++[32]++bK a3,rfl,rfl,H,by rw[q.block _ H];exact ht.out,VR.below (K.out.trans q) _ _ H3.out.2.2,h0.out.2,z,by rw[<-h1.2];exact n,?_,?_,?_,(d.out.bel.trans K.out).trans q⟩,?_⟩
       .rw[<-h3];simp[iE,bK]
       .simp;omega
       .rw[<-h1.2] at h2;rcases sb (c2++[32]).length 100 with h|h
        .have:=I h;rw[ga] at this;simp at this;omega
        .have:=G h;rw[this];simp at h ⊢;omega
       .rw[z.AG,hx.out];have:=n.len;simp at this;omega)
      clear z n G I q E d0 S;go_wp2;go_roundw
      case rel=>exact⟨_,h4.out.1⟩
      case measure=>exact h4.out.2
 case rest=>
  rename_i wc
  obtain⟨id2,b2,x2,y2,c2,s2,hv,M,c⟩:=hcut;subst hv;have hB:c2.length<=8199:=by have:=c.lc;omega
  have l:=ag (fM c.tl (by omega));have d:=ag c;by_cases f:100<=c2.length
  .rw[Sh f] at l;have i:=ag (gR ⟨#[41]⟩ c.tl (by omega) (by decide));have X:=ag f;clear c M f;go_wp2_with fail;refine l.out.mono ?_;rintro e w' ⟨rfl,rfl⟩;go_wp2_with fail;refine i.out.mono ?_;rintro e O ⟨rfl,o,j⟩;have Z:=ag (show cB w B T t g (.returned (.tuple #[])) O from by
    refine⟨rfl,⟨_,o,?_,λh=>absurd h (by have:=p.out;omega),λ_=> ?_⟩,d.out.bel.trans j⟩
    .rw[<-d.out.goal];exact d.out.pre.full X.out _ _
    .have h1:=d.out.lc;have h2:=p.out;simp;omega)
   clear o j i;go_wp2;refine TT ?_;exact Z.out
  .rw[zd f] at l;have L:oj b2=false:=M.resolve_left f;have W:=c.pre.2 (by omega);have Q:=ag W;have hr:=ag (show c2.length<100 from by omega);have S:=ae c.hp 1;simp only[fD,fy,km] at S;cases hie:rQ b2 with
   |true=>
    match b2,hie,c,d with
    |.empty,_,c,d=>
     have hy:y2=.iface 207 (.agg #[]):=c.vb;subst hy;have hD:=kP;have i:=ag (gR ⟨#[41]⟩ c.tl (by omega) (by decide));clear c M f L W;go_wp2_with fail;refine l.out.mono ?_;rintro e w' ⟨rfl,rfl⟩;go_wp2_with fail;refine i.out.mono ?_;rintro e O ⟨rfl,o,j⟩;have Z:=ag (show cB w B T t g (.returned (.tuple #[])) O from by
      refine⟨rfl,⟨_,o,?_,λh=>absurd h (by have:=p.out;omega),λ_=> ?_⟩,d.out.bel.trans j⟩
      .rw[<-d.out.goal,Q.out];exact sU.refl _
      .have h1:=d.out.lc;have h2:=p.out;simp;omega)
     clear o j i;go_wp2;refine TT ?_;exact Z.out
   |false=>
    obtain⟨ty2,vy2,rfl,hD⟩:=VR.Mz b2 y2 c.vb L hie;have hw:=ag (Gf b2 L hie);have i:=ag (gR ⟨#[32,46,32]⟩ c.tl (by omega) (by decide));have hd:=c.hid;clear c M f L W hie;go_wp2_with fail;refine l.out.mono ?_;rintro e w' ⟨rfl,rfl⟩;go_wp2_with fail;refine i.out.mono ?_;rintro e O ⟨rfl,o,j⟩;have u:O.heap[m id2]? =some (.cells #[x2,.iface ty2 vy2] 205):=by rw[j.block _ hd];exact d.out.hp
    have d5:=ae u 1;simp only[fD,fy,km] at d5;have E:=ag (R.out b2 O (.iface ty2 vy2) B T m (c2++[32,46,32]) d.out.sz (VR.below j _ _ d.out.vb) o (by simp;omega) (D.out.below (d.out.bel.trans j)));have K:=ag j;clear o j u i l S;go_wp2_with fail;refine E.out.mono ?_;rintro e w6 ⟨rfl,⟨t6,z,n,G,I⟩,q⟩;have hC:t6.length<=8199-t.length:=by
     have h1:=hr.out;have h2:=d.out.len;rw[<-Q.out] at h2;rcases sb (c2++[32,46,32]).length 100 with h|h
     .have:=I h;rw[ga] at this;simp at this;omega
     .have:=G h;have h3:=p.out;rw[this];simp at h ⊢;omega
    have A:=ag (gR ⟨#[41]⟩ z (by omega) (by decide));have hu:=ag n;have hq:=ag ((d.out.bel.trans K.out).trans q);clear z n G I q E d5;go_wp2_with fail;refine A.out.mono ?_;rintro e w7 ⟨rfl,hn,h9⟩;have Z:=ag (show cB w B T t g (.returned (.tuple #[])) w7 from by
     refine⟨rfl,⟨_,hn,?_,λh=>absurd h (by have:=p.out;omega),λ_=> ?_⟩,hq.out.trans h9⟩
     .rw[<-d.out.goal,hw.out,<-Q.out];have:=hu.out.add [41];simpa using this
     .have h2:=p.out;simp;omega)
    clear hn h9 A;go_wp2;refine TT ?_;exact Z.out
theorem F9(N:Nat)(l:GQ N)(id:Nat)(a b:V)(w:aa)(B T:Nat)(m:Nat->Nat)(t:au)(v:al)(d:gN a+gN b<=N)(p:VR w B m (.pair id a b) v)(h:Tl w B T t)(o:t.length<100)(c:Tab B w):
  cl 220 #[Pt T,v] w (cB w B T t (bK (.pair id a b))):=by
 obtain⟨rfl,hid,x,y,hp,n,hb⟩:=p;have j:=ag (fM h (by omega));have k:=ag (MK N l id a b w B T m t x y d hid hp n hb h o c);rw[zd (by omega)] at j;have h1:=Nz;have h2:=Nw;have h3:=NB;have q:=Nx;have u:=NA;have z:=qi;obtain⟨g,i⟩:∃g,g=bK (.pair id a b):=⟨_,rfl⟩;rw[<-i] at k;rw[<-i];clear h o hp n hb c l d i;go_enter func220,ntmps220;go_wp2_with fail;refine j.out.mono ?_;rintro e w' ⟨rfl,rfl⟩;go_wp2_with fail;refine k.out.mono ?_;intro e A h2;have f:=ag h2;obtain⟨rfl,_,_⟩:=h2;go_wp2;refine TT ?_;exact f.out
theorem Kk:∀N,GQ N:=by
 intro N;induction N with
 |zero=>
   intro v w x B T m t g d h j i;rcases sb t.length 100 with c|c
   .match v,d,g with
    |.int k,d,_=>obtain⟨rfl,f,h1⟩:=d;exact AE t k w B T f h1 h c i
    |.bool b,d,_=>have e:x=_:=d;subst e;exact vj t b w B T h c
    |.sym s,d,_=>obtain⟨rfl,f⟩:=d;exact AF t s w B T f h c
    |.empty,d,_=>have e:x=_:=d;subst e;exact sM t w B T h c
    |.nothing,d,_=>have e:x=_:=d;subst e;exact nw t w B T h c
    |.proc id,d,_=>obtain⟨rfl,_⟩:=d;exact vm t w B T _ h c
    |.pair id a b,d,g=>simp only[gN] at g;omega
   .obtain⟨l,y,rfl⟩:=VR.form _ _ d;exact vl t _ l y w B T h j c
 |succ N n=>
   intro v w x B T m t g d h j i;rcases sb t.length 100 with c|c
   .match v,d,g with
    |.int k,d,_=>obtain⟨rfl,f,h1⟩:=d;exact AE t k w B T f h1 h c i
    |.bool b,d,_=>have e:x=_:=d;subst e;exact vj t b w B T h c
    |.sym s,d,_=>obtain⟨rfl,f⟩:=d;exact AF t s w B T f h c
    |.empty,d,_=>have e:x=_:=d;subst e;exact sM t w B T h c
    |.nothing,d,_=>have e:x=_:=d;subst e;exact nw t w B T h c
    |.proc id,d,_=>obtain⟨rfl,_⟩:=d;exact vm t w B T _ h c
    |.pair id a b,d,g=>exact F9 N n id a b w B T m t x (by simp only[gN] at g;omega) d h c i
   .obtain⟨l,y,rfl⟩:=VR.form _ _ d;exact vl t _ l y w B T h j c
theorem ofBytes(z:ao)(l:au)(h:z.data.toList=l):z=⟨l.toArray⟩:=by cases z;subst h;rfl
theorem Kj(t:au):t.take (min t.length 100)=t.take 100:=by
 rcases Nat.le_total t.length 100 with h|h
 .rw[SN h,xp,s9 h]
 .rw[Nat.min_eq_right h]
theorem yy{w:aa}(o:w.ownsRow B 5 1 (.slice a t.length cap) t.length (Lib.byteCells t)):
  (convert 72 9 (.slice a (min (t.length:Int) 100).toNat cap)).run prog w=.ok (.string ⟨(t.take 100).toArray⟩) w:=by
 have b:(min (t.length:Int) 100).toNat=min t.length 100:=by omega
 rw[b];rcases o.2 with⟨f,j⟩|⟨g,cap',h,f,q,n,h1,h2,h3,k⟩
 .have p:t=[]:=ze.1 j;subst p;cases f;exact run_convert_bytes_nil w 72 5 underlying72 underlying5 _ _ 9 underlying9
 .cases f;have l:Lib.Bytes w g 0 ⟨t.toArray⟩:=λi hi=>by
   have d:i<t.length:=by simpa[ByteArray.size] using hi
   rw[C4,ae n];have c:(h.toList.take (t.length *1))[i]? =some (.int .u8 (t[i]).toNat):=by rw[k];simp[Lib.byteCells,d]
   rw[Bk] at c;split at c
   .rw[<-C1,c];rfl
   .cases c
  have:=Lib.run_convert_window (P:=prog) w 72 5 9 underlying72 underlying5 underlying9 g 0 ⟨t.toArray⟩ l 0 (min t.length 100) cap (by simp[ByteArray.size];omega);rw[rn,C4] at this;rw[this,ofBytes ((ByteArray.mk t.toArray).extract 0 (min t.length 100)) (t.take 100) (by rw[SF,Nat.sub_zero,RQ];exact Kj t)]
def GR(w:aa)(v:V)(e:bo)(w':aa):Prop:=e=.returned (.string ⟨((bK v).take 100).toArray⟩)/\Below w.heap.size w w'
theorem AP(v:V)(w:aa)(x:al)(m:Nat->Nat)(C:VR w w.heap.size m v x)(f:Tab w.heap.size w):
  cl 198 #[x] w (GR w v):=by
 obtain⟨i,c⟩:∃i,i=w.alloc (.cells #[.slice none 0 0] 335):=⟨_,rfl⟩;have d:Below w.heap.size w i:=by rw[c];exact aR _ _
 have j:Tl i w.heap.size w.heap.size []:=⟨ew _,.slice none 0 0,by rw[c];exact n6,oh _ _ _ _⟩;have D:=ag (Kk (gN v) v i x w.heap.size w.heap.size m [] (ew _) (VR.below d _ _ C) j (by simp) (f.below d));have n:=ag d;obtain⟨I,J,rfl⟩:=VR.form _ _ C;clear C f j d;go_enter func198,ntmps198;go_wp2_with fail;rw[<-c];clear c;refine D.out.mono ?_;rintro e K ⟨rfl,⟨H,A,b,_,l⟩,k⟩;have g:=l (by simp);simp only[R0,Sg] at g b;have h:=ag b;have o:=ag (n.out.trans k);obtain⟨hB,u,hS,z⟩:=A;have E:=ag z;obtain⟨a,cap,rfl,F,q,p⟩:=ay z;unfold maxLen at q;have c0:=ae hS 0;simp only[fD,fy] at c0;have G:=yy E.out;clear b k l D hS z p;go_wp2;go_ret;exact⟨by rw[h.out.1];rfl,o.out⟩
def ld(w:aa):a8->a7->Prop
 |p,[]=>p=none
 |p,v::r=>∃g q,p=some ⟨g,0,none⟩/\w.heap[g]? =some (Obj.cells #[v,.pointer q,.int .i64 (r.length+1:Nat)] 333 (0,0))/\ld w q r
theorem ld.ak{w:aa}(k:aC 333 w w'):∀(l:a7) (p:a8),ld w p l->ld w' p l
 |[],p,h=>h
 |v::r,p,⟨g,q,h1,h2,h3⟩=>⟨g,q,h1,k _ _ h2,ld.ak k r q h3⟩
def ph(below:a8)(depth:Int)(frame:a8)(at0:Int)(got:a8):bc:= #[.pointer below,.int .i64 depth,.pointer frame,.int .i64 at0,.pointer got]
def vA(w:aa)(c:bc)(e:bo)(w':aa):Prop:=∃g,e=.returned (Pt g)/\w.heap.size<=g/\w'.heap[g]? =some (Obj.cells c 115 (0,0))/\Below w.heap.size w w'
theorem AQ(w:aa)(e:Nat)(below frame got:a8)(depth at0 n:Int)(b:w.heap[e]? =some (.cells (ph below depth frame at0 got) 115)):
  cl 195 #[Pt e,Jn n] w (vA w (ph below depth frame n got)):=by
 unfold ph at *;have c0:=ae b 0;have c1:=ae b 1;have c2:=ae b 2;have c3:=ae b 3;have g:=ae b 4;have h:=ai b;simp only[fD,fy,km] at c0 c1 c2 c3 g;clear b;have f:=ag (λc=>n6 (xs:=w.heap) (x:=Obj.cells c 115 (0,0)));have d:=ag (λo=>(fL w.heap.size w).alloc (ew _) o);go_enter func195,ntmps195;go_wp2;go_ret;exact⟨w.heap.size,rfl,ew _,by first|exact f.out _|exact TH (f.out _),by first|exact d.out _|exact(d.out _).setCell (ew _) _⟩
theorem KF(w:aa)(e:Nat)(below frame:a8)(depth at0:Int)(t:bi)(x:al)(b:w.heap[e]? =some (.cells (ph below depth frame at0 none) 115)):
  cl 194 #[Pt e,.iface t x] w λr w'=>∃q,vA w (ph below depth frame at0 q) r w'/\ld w' q [.iface t x]:=by
 unfold ph at *;have c0:=ae b 0;have c1:=ae b 1;have c2:=ae b 2;have c3:=ae b 3;have c:=ae b 4;have d:=ai b;simp only[fD,fy,km] at c0 c1 c2 c3 c;clear b;go_enter func194,ntmps194;go_wp2;go_ret;refine⟨eb (w.heap.size+1),⟨w.heap.size,rfl,ew _,?_,(aR _ _).alloc (by simp) _⟩,w.heap.size+1,none,rfl,?_,rfl⟩
 .rw[tm _ _ _ (by simp)];exact n6
 .exact bR _ _ _
theorem Gl(w:aa)(e g:Nat)(below frame q:a8)(depth at0:Int)(t:bi)(x v:al)(l:a7)(u:l.length<=1000000)(b:w.heap[e]? =some (.cells (ph below depth frame at0 (eb g)) 115))(c:w.heap[g]? =some (.cells #[v,.pointer q,Jn (l.length+1:Nat)] 333))(f:ld w q l):
  cl 194 #[Pt e,.iface t x] w λr w'=>∃q,vA w (ph below depth frame at0 q) r w'/\ld w' q (.iface t x::v::l):=by
 have i:=ag c;have j:=ag f;unfold ph at *;have c0:=ae b 0;have c1:=ae b 1;have c2:=ae b 2;have c3:=ae b 3;have k:=ae b 4;have n:=ae c 2;have p:=ai b;have d:=ai c;simp only[fD,fy,km] at c0 c1 c2 c3 k n;clear b c f;go_enter func194,ntmps194;go_wp2;go_ret;have hb:∀o h,Below w.heap.size w ((w.alloc o).alloc h):=λo h=>(aR _ _).alloc (by simp) _;refine⟨eb (w.heap.size+1),⟨w.heap.size,rfl,ew _,?_,hb _ _⟩,w.heap.size+1,eb g,rfl,?_,g,q,rfl,?_,?_⟩
 .rw[tm _ _ _ (by simp)];exact n6
 .rw[bR]
  congr 2
  simp;omega
 .rw[(hb _ _).block g d];exact i.out
 .exact ld.ak (TX (hb _ _)) _ _ j.out
theorem sS(w:aa)(e:Nat)(below frame got:a8)(depth at0:Int)(t:bi)(x:al)(l:a7)(f:l.length<=1000000)(c:w.heap[e]? =some (.cells (ph below depth frame at0 got) 115))(b:ld w got l):
  cl 194 #[Pt e,.iface t x] w λr w'=>∃q,vA w (ph below depth frame at0 q) r w'/\ld w' q (.iface t x::l):=by
 cases l with
 |nil=>have h:got=none:=b;subst h;exact KF w e below frame depth at0 t x c
 |cons v l=>
  obtain⟨g,q,rfl,d,b⟩:=b;exact Gl w e g below frame q depth at0 t x v l (by simp at f;omega) c d b
def Bb(w:aa)(l:a7)(R:Nat)(p:al)(wr:aa)(k:Nat):Prop:=
 ∃q r d pre,p=.pointer q/\l=d++r/\r.length=k/\ld wr q r/\pre.length=k/\wr.heap[R]? =some (Obj.cells (pre++d.reverse).toArray 81 (0,0))/\Below w.heap.size w wr
def Hq(p:al)(w:aa):Nat:=match p with
 |.pointer (some a)=>match w.cell? ⟨a.block,2,none⟩ with
  |some (.int _ n)=>n.toNat
  |_=>0
 |_=>0
theorem ld.Hp{w:aa}:∀(l:a7) (q:a8),ld w q l->Hq (.pointer q) w=l.length
 |[],q,h=>by have h:q=none:=h;subst h;rfl
 |v::r,q,⟨g,b,h1,h2,h3⟩=>by
  subst h1;have c2:=ae h2 2;simp only[fD,fy,km] at c2;unfold Hq;simp only[c2];simp
theorem J1(pre:a7)(z x:al)(s:a7)(k:Nat)(b:pre.length=k):(pre++[z]++s).set k x=pre++([x]++s):=by
 subst b;rw[RH,R1 _ _ (ew _),SQ];simp
theorem Nm(l:a7)(k:Nat)(h:l.length=k+1):∃p z,l=p++[z]/\p.length=k:=by
 refine⟨l.dropLast,l.getLast (by intro e;subst e;cases h),(List.dropLast_concat_getLast _).symm,by simp[h]⟩
def K6(w:aa)(l:a7)(e:bo)(w':aa):Prop:=
 ∃g,e=.returned (.slice (eb g) l.length l.length)/\w'.ownsRow w.heap.size 81 1 (.slice (eb g) l.length l.length) l.length l.reverse/\Below w.heap.size w w'
theorem vt(w:aa)(e g:Nat)(below frame q:a8)(depth at0:Int)(v:al)(l:a7)(hl:l.length<=1000000)(E:∀x∈v::l,∃t y,x=.iface t y)(Q:w.heap[e]? =some (Obj.cells (ph below depth frame at0 (eb g)) 115 (0,0)))(R:w.heap[g]? =some (Obj.cells #[v,.pointer q,Jn (l.length+1:Nat)] 333 (0,0)))(hq:ld w q l):
  cl 196 #[Pt e] w (K6 w (v::l)):=by
 have HG:=ag R;have HQ:=ag (show ld w (eb g) (v::l) from⟨g,q,rfl,R,hq⟩);have HE:=ag Q;have M:=ag E;unfold ph at Q;have c4:=ae Q 4;have d2:=ae R 2;have h4:=ai Q;have h5:=ai R;simp only[fD,fy,km] at c4 d2;have W:∀w,(Instr.makeSlice 76 (Jn ((l.length:Int)+1)) (Jn ((l.length:Int)+1))).run prog w=.ok (.slice (eb w.heap.size) (l.length+1) (l.length+1)) (w.alloc (.cells (madeCells #[.nilIface] (l.length+1)) 81)):=λw=>by
  have h:=run_make_row' (P:=prog) 76 81 .nilIface 16 underlying76 jQ rfl .i64 .i64 (l.length+1) (by omega) (by omega) w;rw[Int.natCast_add] at h;exact h
 obtain⟨row,F,K⟩:∃row:a7,madeCells #[Value.nilIface] (l.length+1)=row.toArray/\row.length=l.length+1:=⟨(madeCells #[Value.nilIface] (l.length+1)).toList,rfl,by simp[madeCells]⟩;rw[F] at W;have h3:=ag K;obtain⟨S,i⟩:∃S,S=w.alloc (.cells row.toArray 81):=⟨_,rfl⟩;have G:Below w.heap.size w S:=by rw[i];exact aR _ _
 have N:=ag (show Bb w (v::l) w.heap.size (Pt g) S (l.length+1) from⟨_,v::l,[],row,rfl,rfl,by simp,ld.ak (TX G) _ _ HQ.out,K,by rw[i,List.reverse_nil,Sr];exact n6,G⟩);have Z:=ag i;clear Q R hq E F K G;go_enter func196,ntmps196;go_wp2;rw[<-Z.out];clear i Z
 go_loopw [4] (λp wr=>∃k,Bb w (v::l) w.heap.size p wr k) (λp wr=>Hq p wr)
 case atStart=>exact⟨_,N.out⟩
 case round=>
  obtain⟨k,q2,r,d,pre,rfl,b,u,H,o,hR,j⟩:=hrel;cases r with
  |nil=>
   have Y:q2=none:=H;subst Y;have X:pre=[]:=ze.1 (by rw[o,<-u];rfl);subst X;rw[Sr] at b;have HF:=ag (show wr.ownsRow w.heap.size 81 1 (.slice (eb w.heap.size) (l.length+1) (l.length+1)) (l.length+1) (v::l).reverse from by
    refine⟨by simp,RA ⟨w.heap.size,l.length+1,_,rfl,ew _,hR,ew _,by unfold maxLen;omega,by rw[Sg,<-b];simp,?_⟩⟩;rw[Sg,<-b,S9];exact s9 (by simp))
   have V:=ag j;clear b u H o hR j;go_wp2;go_ret;exact⟨_,rfl,HF.out,V.out⟩
  |cons x r=>
   obtain⟨U,L,rfl,c,J⟩:=H;obtain⟨A,C,hx⟩:=M.out x (by rw[b];simp);subst hx;have e0:=ae c 0;have e1:=ae c 1;have e2:=ae c 2;simp only[fD,fy,km] at e0 e1 e2;obtain⟨p2,z,I,n⟩:=Nm pre r.length (by rw[o,<-u];rfl);have h2:r.length<=l.length:=by have:=Sq List.length b;simp at this;omega
   have f0:=ah hR r.length;have k0:wr.cell? (dq w.heap.size r.length)=some z:=by rw[ae hR,I];simp[<-n]
   have f:=ag (show Bb w (v::l) w.heap.size (.pointer L) (wr.setCell (dq w.heap.size r.length) (.iface A C)).drew r.length/\Hq (.pointer L) (wr.setCell (dq w.heap.size r.length) (.iface A C)).drew<Hq (Pt U) wr from by
    have kp:aC 333 wr (wr.setCell (dq w.heap.size r.length) (.iface A C)).drew:=aK hR (by decide);have D:=ld.ak kp r L J;refine⟨⟨L,r,d++[.iface A C],p2,rfl,by rw[b];simp,rfl,D,n,?_,(j.setCell (p:=(dq w.heap.size r.length)) (ew _) _).drew⟩,?_⟩
    .show(wr.setCell (dq w.heap.size r.length) (.iface A C)).heap[w.heap.size]? =_;rw[TH hR,I];have:=J1 p2 z (.iface A C) d.reverse r.length n;simp only[List.setIfInBounds_toArray,this,List.reverse_append,RF,List.reverse_nil,Sg]
    .rw[ld.Hp r L D,ld.Hp (.iface A C::r) (eb U) ⟨U,L,rfl,c,J⟩];simp)
   have h1:=ai c;have kq:aC 333 wr (wr.setCell (dq w.heap.size r.length) (.iface A C)).drew:=aK hR (by decide);have O:=ae (kq _ _ c) 1;simp only[fD,fy,km] at O;have h0:Cl (wr.setCell (dq w.heap.size r.length) (.iface A C)) U 1 (.pointer L):=O;clear kq;clear b u o hR j c J I n;go_wp2;go_region;go_wp2;go_roundw
   case rel=>exact⟨_,f.out.1⟩
   case measure=>exact f.out.2
structure En where
 fr:Nat
 nx:Int
 got:List V
inductive PK where
 |first(k:Nat)
 |clo (l f:Nat)
 |kont (st:List En)
structure Fr where
 ns:List Int
 vs:List V
 out:Option Nat
structure MS where
 pc:Int
 val:Option V
 fr:Nat
 app:Option (V×List V)
 st:List En
 out:List au
 frs:List Fr
 obs:List (Option PK)
structure Cd where
 is:List (Int×Int)
 cs:List V
 ns:List au
 ls:List (au×List Nat×Nat)
inductive SR where
 |ok (s:MS)
 |err (e:Int) (d:Nat) (o:List au)
 |done (t:au) (o:List au)
 |bad
def AY(x:Int):Int:=(x+9223372036854775808)%18446744073709551616-9223372036854775808
def dU(l:List Int)(n:Int):Option Nat:=if l.contains n then some (l.idxOf n) else none
def fZ(frs:List Fr):Nat->Nat->Int->Option (Nat×Nat)
 |0,_,_=>none
 |k+1,f,n=>match frs[f]? with
  |none=>none
  |some fr=>match dU fr.ns n with
   |some i=>some (f,i)
   |none=>match fr.out with
    |none=>none
    |some g=>fZ frs k g n
def Fr.put(fr:Fr)(i:Nat)(v:V):Fr:={fr with vs:=fr.vs.set i v}
def Fr.define(fr:Fr)(n:Int)(v:V):Fr:=match dU fr.ns n with
 |some i=>fr.put i v
 |none=>{fr with ns:=fr.ns++[n],vs:=fr.vs++[v]}
def cj:V->V->Bool
 |.int a,.int b=>a==b
 |.bool a,.bool b=>a==b
 |.sym a,.sym b=>a==b
 |.empty,.empty=>true
 |.nothing,.nothing=>true
 |.pair i _ _,.pair j _ _=>i==j
 |.proc i,.proc j=>i==j
 |_,_=>false
def du(s:MS)(v:V):SR:=match s.st with
 |e::_=>.ok {s with val:=some v,pc:=e.nx,fr:=e.fr}
 |[]=>.bad
def eE(s:MS)(e:Int):SR:=match s.st with
 |_::r=>.err e r.length s.out
 |[]=>.bad
def lR(s:MS)(f:Int->Int->V):V->V->SR
 |.int a,.int b=>du s (f a b)
 |_,_=>eE s 8
def bV(C:Cd)(s:MS):Nat->List V->SR
 |0,[a,b]=>lR s (λx y=>.int (AY (x+y))) a b
 |1,[a,b]=>lR s (λx y=>.int (AY (x-y))) a b
 |2,[a,b]=>lR s (λx y=>.int (AY (x *y))) a b
 |3,[a,b]=>lR s (λx y=>.bool (decide (x<y))) a b
 |4,[a,b]=>lR s (λx y=>.bool (x==y)) a b
 |5,[a,b]=>du {s with obs:=s.obs++[none]} (.pair (2 *s.obs.length) a b)
 |6,[a]=>match a with
  |.pair _ x _=>du s x
  |_=>eE s 8
 |7,[a]=>match a with
  |.pair _ _ y=>du s y
  |_=>eE s 8
 |8,[a]=>du s (.bool (cj a .empty))
 |9,[a]=>match a with
  |.pair _ _ _=>du s (.bool true)
  |_=>du s (.bool false)
 |10,[a]=>du s (.bool (cj a (.bool false)))
 |11,[a,b]=>du s (.bool (cj a b))
 |12,[a]=>if s.out.length=40 then eE s 10 else du {s with out:=s.out++[(bK a).take 100]} .nothing
 |13,[a]=>.ok {s with app:=some (a,[.proc (2 *s.obs.length)]),obs:=s.obs++[some (.kont s.st)],pc:=s.pc-1}
 |_,_=>.bad
def eD(k:Nat):Nat:=if k=6\/k=7\/k=8\/k=9\/k=10\/k=12\/k=13 then 1 else 2
def sn(s:MS)(id:Nat):Option PK:=if id%2=0 then(match s.obs[id/2]? with
 |some (some k)=>some k
 |_=>none) else none
def Hz(C:Cd)(s:MS)(a:List V):PK->SR
 |.first k=>if a.length=eD k then bV C s k a else eE s 7
 |.clo l f=>match C.ls[l]? with
  |some (_,ns,e)=>if a.length=ns.length then .ok {s with frs:=s.frs++[⟨ns.map Int.ofNat,a,some f⟩],fr:=s.frs.length,pc:=e} else eE s 7
  |none=>.bad
 |.kont st=>match a with
  |[v]=>du {s with st:=st} v
  |_=>eE s 7
def nS(C:Cd)(s:MS):SR:=match s.app with
 |some (.proc id,a)=>match sn s id with
  |some k=>Hz C {s with app:=none} a k
  |none=>.bad
 |some _=>eE s 6
 |none=>.bad
def dV(C:Cd)(s:MS)(op n:Int):SR:=match op with
 |0=>.ok {s with st:=[⟨s.fr,n,[]⟩]}
 |1=>match C.cs[n.toNat]? with
  |some v=>.ok {s with val:=some v}
  |none=>.bad
 |2=>match fZ s.frs (s.fr+1) s.fr n with
  |some (f,i)=>match s.frs[f]? with
   |some fr=>match fr.vs[i]? with
    |some v=>.ok {s with val:=some v}
    |none=>.bad
   |none=>.bad
  |none=>eE s 5
 |3=>if n.toNat<C.ls.length then .ok {s with val:=some (.proc (2 *s.obs.length)),obs:=s.obs++[some (.clo n.toNat s.fr)]} else .bad
 |4=>if s.st.length=201 then eE s 9 else if s.st.length=0\/201<s.st.length then .bad else .ok {s with st:=⟨s.fr,n,[]⟩::s.st}
 |5=>match s.st,s.val with
  |e::r,some v=>if e.got.length<1000000 then .ok {s with st:=⟨e.fr,n,v::e.got⟩::r} else .bad
  |_,_=>.bad
 |6=>match s.st with
  |e::r=>.ok {s with st:=⟨e.fr,n,e.got⟩::r}
  |[]=>.bad
 |7=>match s.st with
  |_::r=>.ok {s with st:=r}
  |[]=>.bad
 |8=>match s.st,s.val with
  |_::r,some v=>.ok {s with st:=r,pc:=if cj v (.bool false) then n else s.pc}
  |_,_=>.bad
 |9=>match s.st,s.val with
  |_::r,some v=>match s.frs[s.fr]? with
   |some fr=>if fr.ns.length<1000000 then .ok {s with st:=r,val:=some .nothing,frs:=s.frs.set s.fr (fr.define n v)} else .bad
   |none=>.bad
  |_,_=>.bad
 |10=>match s.st,s.val with
  |_::r,some v=>match fZ s.frs (s.fr+1) s.fr n with
   |some (f,i)=>match s.frs[f]? with
    |some fr=>.ok {s with st:=r,val:=some .nothing,frs:=s.frs.set f (fr.put i v)}
    |none=>.bad
   |none=>eE {s with st:=r} 5
  |_,_=>.bad
 |11=>match s.st,s.val with
  |e::r,some v=>match (v::e.got).reverse with
   |p::a=>.ok {s with app:=some (p,a),st:=r}
   |[]=>.bad
  |_,_=>.bad
 |12=>nS C s
 |13=>match s.st with
  |e::_=>.ok {s with pc:=e.nx,fr:=e.fr}
  |[]=>.bad
 |14=>.done (match s.val with
  |some v=>(bK v).take 100
  |none=>[]) s.out
 |_=>.bad
def iW(C:Cd)(s:MS):Option (Int×Int):=if 0<=s.pc then C.is[s.pc.toNat]? else none
def iQ(C:Cd)(s:MS):SR:=match iW C s with
 |some (op,n)=>if 0<=n then dV C {s with pc:=s.pc+1} op n else .bad
 |none=>.bad
inductive RR where
 |run (s:MS)
 |err (e:Int) (d:Nat) (o:List au)
 |done (t:au) (o:List au)
def kI(C:Cd):Nat->MS->Nat->Nat->Option (Nat×RR)
 |0,_,_,_=>none
 |k+1,s,n,made=>match iW C s with
  |none=>none
  |some (op,_)=>
   if op=12/\made=n then some (made,.run s)
   else
    let made':=if op=12 then made+1 else made
    match iQ C s with
    |.ok s'=>kI C k s' n made'
    |.err e d o=>some (made',.err e d o)
    |.done t o=>some (made',.done t o)
    |.bad=>none
def aP:List au:=[[43],[45],[42],[60],[61],[99,111,110,115],[99,97,114],[99,100,114],[110,117,108,108,63],[112,97,105,114,63],[110,111,116],[101,113,63],[100,105,115,112,108,97,121],[99,97,108,108,47,99,99]]
def oH(C:Cd):Nat->List au->Fr->Fr
 |_,[],f=>f
 |k,s::r,f=>oH C (k+1) r (if C.ns.contains s then f.define (C.ns.idxOf s:Nat) (.proc (2 *k)) else f)
def gT(C:Cd):MS:=
 {pc:=0,val:=none,fr:=0,app:=none,st:=[⟨0,0,[]⟩],out:=[],frs:=[oH C 0 aP ⟨[],[],none⟩],obs:=(List.range 14).map λk=>some (.first k)}
end Go.Proofs.YtlobegpjenabaaaGreatDoor
