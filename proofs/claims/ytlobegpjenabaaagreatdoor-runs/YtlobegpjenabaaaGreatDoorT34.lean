import Derived.Test.YtlobegpjenabaaaGreatDoorT33
namespace Go.Proofs.YtlobegpjenabaaaGreatDoor
open Go.RowKit Tryz
set_option linter.unusedVariables false
set_option maxRecDepth 100000
set_option maxHeartbeats 4000000
variable {N n:Nat}
theorem OJ:(prog.info? 32).map (λi=>(i.zero,i.size,i.bytes))=some (some (.agg #[Jn 0,Jn 0,Jn 0,Jn 0,.string ⟨#[]⟩]),5,48):=by kernel_rfl
def NY(o:Opr):a7:=(OpV o.k o.oc o.om o.n o.s).toList
theorem DY:∀(l:List Opr) (i:Nat) (o:Opr),l[i]? =some o->∀j,j<5->(l.flatMap NY)[5 *i+j]? =(NY o)[j]?
 |[],i,o,h,_,_=>by simp at h
 |b::l,0,o,h,j,a=>by
  simp at h;subst h;rw[Ps,show 5 *0+j=j by omega,o5 (show j<5 from a)]
 |b::l,i+1,o,h,j,a=>by
  rw[Ps,s7 (show 5<=5 *(i+1)+j by omega),show 5 *(i+1)+j-(NY b).length=5 *i+j from(by show _-5=_;omega)];exact DY l i o (by simpa using h) j a
theorem M8{w:aa}{v:al}{l:List Opr}(h:w.ownsRow N 32 5 v n (l.flatMap NY))(f:n=l.length)(ho:∀o∈l,o.ok):∃a c,v=.slice a l.length c/\ScrAt w a l:=by
 subst f;obtain⟨a,c,e,_,_,q⟩:=ay h;refine⟨a,c,e,λi o hi=>⟨ho o (Sw hi),?_⟩⟩;have k:=(ke.1 hi).1;obtain⟨g,rfl,_,_,q⟩:=q (by omega);refine⟨g,0,rfl,λj u b=> ?_⟩;have d:j<5:=(Sf.1 b).1;rw[show 0+i *5+j=5 *i+j by omega];refine q _ _ ?_;rw[DY l i o hi j d];unfold NY;rw[C1];exact b
def FO(k n:Int)(s:ao):Opr:=⟨k,0,0,n,s⟩
def tM(s:ao)(l:List Int):List Opr:=[FO 1 0 s,FO 2 0 ⟨#[]⟩,FO 4 0 ⟨#[]⟩]++l.flatMap λn=>[FO 3 n ⟨#[]⟩,FO 4 0 ⟨#[]⟩,FO 5 0 ⟨#[]⟩]
theorem Ar(s:ao)(l:List Int):(tM s l).length=3+3 *l.length:=by
 have:∀l:List Int,(l.flatMap λn=>[FO 3 n ⟨#[]⟩,FO 4 0 ⟨#[]⟩,FO 5 0 ⟨#[]⟩]).length=3 *l.length:=λl=>by
  induction l with
  |nil=>rfl
  |cons a l b=>rw[Ps,ga,b,j1];simp;omega
 unfold tM;rw[ga,this];rfl
theorem Nc(s:ao)(b:s.size<=maxLen)(l:List Int):∀o∈tM s l,o.ok:=λo ho=>by
 have e:∀k n s',s'.size<=maxLen->(FO k n s').ok:=λk n s' h=>⟨⟨by show _<=(0:Int);omega,by show(0:Int)<=_;omega⟩,⟨by show _<=(0:Int);omega,by show(0:Int)<=_;omega⟩,h⟩;have a:(⟨#[]⟩:ao).size<=maxLen:=by decide
 unfold tM at ho;rcases SO.1 ho with ho|ho
 .simp at ho;rcases ho with rfl|rfl|rfl
  .exact e _ _ _ b
  .exact e _ _ _ a
  .exact e _ _ _ a
 .obtain⟨n,_,ho⟩:=List.mem_flatMap.1 ho;simp at ho;rcases ho with rfl|rfl|rfl<;>exact e _ _ _ a
theorem FU(s:ao)(l:List Int)(k:Nat)(a:k<l.length):tM s (l.take (k+1))=tM s (l.take k)++[FO 3 l[k] ⟨#[]⟩,FO 4 0 ⟨#[]⟩,FO 5 0 ⟨#[]⟩]:=by
 unfold tM;rw[mn a,RN,RH];simp
theorem Runs_go(w:aa)(hm:MaxOk w)(T:Tab w.heap.size w)(R:ErrT w)(s:ao)(S:s.size<=maxLen)(a:a8)(F:Nat)(l:List Int)(hl:l.length<=1048576)(j:IntsAt w a l):cl 4 #[.string s,.slice a l.length F] w (KT w w.heap.size):=by
 obtain⟨i0,hi,o,q,r⟩:=sv OJ;have t:=ag (ei hi (ei o (ei q r)));have C:=ag j;have HM:=ag hm;have V:=ag T;have f:=ag R;have D:=ag (Nc s S);have E:Hid ((w.alloc (.cells #[Jn 1,Jn 0,Jn 0,Jn 0,.string s,Jn 2,Jn 0,Jn 0,Jn 0,.string ⟨#[]⟩,Jn 4,Jn 0,Jn 0,Jn 0,.string ⟨#[]⟩] 32)).ownsRow w.heap.size 32 5 (.slice (eb w.heap.size) 3 3) 3 ((tM s (l.take 0)).flatMap NY)):=⟨rfl,.inr ⟨w.heap.size,3,_,rfl,ew _,fK _ _,ew _,by decide,rfl,rfl⟩⟩;clear hm T R j hi o q r S;go_enter func4,ntmps4;go_wp2
 go_loopw [5,6] (λv i wr=>∃k:Nat,k<=l.length/\i=Jn k/\wr.ownsRow w.heap.size 32 5 v (3+3 *k) ((tM s (l.take k)).flatMap NY)/\Below w.heap.size w wr) (λ_ i _=>l.length-(intOf i).toNat)
 case atStart=>exact⟨0,kc _,rfl,E.out,aR _ _⟩
 case round=>
  obtain⟨k,z,rfl,m,hb⟩:=hrel;obtain⟨P,rc,rfl,_,_⟩:=m.form (by omega);have O:=ag m;have L:=ag hb;have c:=hb.size;by_cases hlt:k<l.length
  .obtain⟨g,K,rfl,H,Q⟩:=C.out.1 k hlt;have X:=(hb.cell (p:=(dq g (K+k))) H).trans Q;obtain⟨y,J⟩:∃y,y=l[k]:=⟨_,rfl⟩;have W:=ag J;rw[<-J] at X;have Y:(k:Int)<(l.length:Int):=by omega
   clear m hb Q J;go_wp2_with (at_builtin;refine nl _ rfl (.tmp 18) (.tmp 26) 33 rfl w.heap.size 32 i0 (.agg #[Jn 0,Jn 0,Jn 0,Jn 0,.string ⟨#[]⟩]) 5 48 underlying33 t.out.1 t.out.2.1 t.out.2.2.1 t.out.2.2.2 rfl (by decide) _ (3+3 *k) ((tM s (l.take k)).flatMap NY) rfl (O.out.alloc _) (dq wr.heap.size 0) 3 3 [Jn 3,Jn 0,Jn 0,Jn y,.string ⟨#[]⟩,Jn 4,Jn 0,Jn 0,Jn 0,.string ⟨#[]⟩,Jn 5,Jn 0,Jn 0,Jn 0,.string ⟨#[]⟩] rfl rfl (m9 _ _ _ #[Jn 3,Jn 0,Jn 0,Jn y,.string ⟨#[]⟩,Jn 4,Jn 0,Jn 0,Jn 0,.string ⟨#[]⟩,Jn 5,Jn 0,Jn 0,Jn 0,.string ⟨#[]⟩] rfl) (λu hu=>RT.1 (show List.all [Jn 3,Jn 0,Jn 0,Jn y,.string ⟨#[]⟩,Jn 4,Jn 0,Jn 0,Jn 0,.string ⟨#[]⟩,Jn 5,Jn 0,Jn 0,Jn 0,.string ⟨#[]⟩] Value.oneCell'=true from rfl) u hu) (by decide) (by unfold maxLen;omega) (by omega) (by simp;omega) (wr.heap.size+1) (by simp) ?_);intro g2 c2 w2 ho d _ _;have U:=ag ho;have B:=ag (show Below w.heap.size w w2 from L.out.trans ((((aR wr _).mono c)).trans (aB.below ⟨d.os,d.tape,d.output,d.size,λk z Z=>d.block k z (λe=>Z e)⟩ (show w.heap.size<=_ by simp;omega) (λk (z:some k=some P)=>by cases z;exact(ar O.out rfl).1))));clear ho d;go_wp2;go_roundw
   case rel=>exact⟨k+1,by omega,rfl,by rw[FU s l k hlt,RN,<-W.out];exact U.out,B.out⟩
   case measure=>simp[intOf];omega
  .have I:k=l.length:=by omega
   subst I;obtain⟨a',c',e',b⟩:=M8 m (by rw[Ar,RE];omega) (D.out _);have x:=Ar s (l.take l.length);rw[RE,Nat.min_self] at x;rw[x] at e';cases e';have G:=D1 wr (HM.out.below hb HM.out.lt) ((V.out.below hb).mono c) (f.out.below hb f.out.lt) (eb P) rc _ (by omega) b;rw[x] at G;have M:=ag G;clear m hb b G x;go_wp2_with fail;refine M.out.mono ?_;rintro e w1 ⟨rfl,h⟩;have A:=ag (L.out.trans (h.mono c));clear h M;go_wp2;go_ret;exact⟨rfl,A.out⟩
end Go.Proofs.YtlobegpjenabaaaGreatDoor
