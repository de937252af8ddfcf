import Derived.Test.YtlobegpjenabaaaGreatDoorT12
import Derived.BigRegion
namespace Go.Proofs.YtlobegpjenabaaaGreatDoor
open Go.RowKit Tryz
set_option linter.unusedSimpArgs false
set_option linter.unusedVariables false
set_option linter.defProp false
set_option maxRecDepth 100000
set_option maxHeartbeats 4000000
def kn:=@World.cell?_alloc_past
def RO:=@World.frozen?_alloc_past
def SA:=@World.cell?_setCell_same
variable {M gf B K:Nat} {n pc er de:Int} {old v2 app args x:al} {X1 X2:a9} {ow ow1 ow2 mo mf:Nat->Option Nat} {w1 w2 w':aa} {C:Cd} {s:MS} {va:ao} {T:bi} {p:a8}
structure cP(w:aa)(M E gf:Nat)(n pc:Int)(old a:al):Prop where
 ne:E≠M
 ml:M<w.heap.size
 el:E<w.heap.size
 k6:w.cell? ⟨M,6,none⟩=some (.pointer (some ⟨E,0,none⟩))
 k1:w.cell? ⟨M,1,none⟩=some (.int .i64 pc)
 k2:w.cell? ⟨M,2,none⟩=some a
 k3:w.cell? ⟨M,3,none⟩=some old
 fz:∀o,w.frozen? ⟨M,o,none⟩=false
 e3:w.cell? ⟨E,3,none⟩=some (.int .i64 n)
 e2:w.cell? ⟨E,2,none⟩=some (.pointer (some ⟨gf,0,none⟩))
theorem cP.drew{w:aa}{E:Nat}(h:cP w M E gf n pc old v2):cP w.drew M E gf n pc old v2:=⟨h.ne,h.ml,h.el,h.k6,h.k1,h.k2,h.k3,h.fz,h.e3,h.e2⟩
theorem cP.alloc{w:aa}{E:Nat}(h:cP w M E gf n pc old v2)(o:Obj):cP (w.alloc o) M E gf n pc old v2:=by
 have a:∀k i,k<w.heap.size->(w.alloc o).cell? (dq k i)=w.cell? (dq k i):=λk i b=>kn _ _ _ b;refine⟨h.ne,by simp;have:=h.ml;omega,by simp;have:=h.el;omega,?_,?_,?_,?_,λi=> ?_,?_,?_⟩
 .rw[a _ _ h.ml];exact h.k6
 .rw[a _ _ h.ml];exact h.k1
 .rw[a _ _ h.ml];exact h.k2
 .rw[a _ _ h.ml];exact h.k3
 .rw[RO _ _ _ h.ml];exact h.fz i
 .rw[a _ _ h.el];exact h.e3
 .rw[a _ _ h.el];exact h.e2
def cO(w:aa)(M gf:Nat)(n:Int)(v:al):aa:=(((w.setCell ⟨M,2,none⟩ v).setCell ⟨M,1,none⟩ (.int .i64 n)).setCell ⟨M,3,none⟩ (.pointer (some ⟨gf,0,none⟩))).drew
theorem ek{w:aa}{E:Nat}(h:cP w M E gf n pc old v2)(t:bi)(x:al):
  cl 212 #[Pt M,.iface t x] w (bD (.tuple #[]) (cO w M gf n (.iface t x))):=
 zc w M E gf n pc t x old v2 h.ne h.k6 h.k1 h.k2 h.k3 (h.fz 1) (h.fz 2) (h.fz 3) h.e3 h.e2
theorem l6(k:Int)(w:aa):(Instr.typeAssert (.iface 130 (Jn k)) 81 130 true).run prog w=.ok (.tuple #[Jn k,.bool true]) w:=by kernel_rfl
theorem LJ(w:aa)(M E gf mb g f c d:Nat)(n pc:Int)(old v2:al)(a b:Int)(h:cP w M E gf n pc old v2)(m:Cl w mb 0 (Pt M))(f0:Cl w g 0 (.func (.func 160) #[Pt M] #[]))(k:Cl w f c (.iface 130 (Jn a)))(l:Cl w f (c+1) (.iface 130 (Jn b))):
  cl 211 #[.slice (some (dq f c)) 2 d,Pt mb,Pt g] w (bD .nilIface (cO w.drew M gf n (.iface 130 (Jn (wrap64 (a+b)))))):=by
 have j:=ag (ek h.drew 130 (Jn (wrap64 (a+b))));have i:=ag (λW=>Js W M a b);have hi:=l6;clear h;go_enter func211,ntmps211;go_wp2;go_region_with (first|(go_at_call 160;refine(i.out _).mono ?_;rintro e w' ⟨rfl,rfl⟩)|(go_at_call 212;refine j.out.mono ?_;rintro e w' ⟨rfl,rfl⟩))
 all_goals(go_wp2;go_ret;exact⟨rfl,rfl⟩)
theorem Ib(w:aa)(M E gf mb g f c d:Nat)(n pc:Int)(old v2:al)(a b:Int)(h:cP w M E gf n pc old v2)(m:Cl w mb 0 (Pt M))(f0:Cl w g 0 (.func (.func 161) #[Pt M] #[]))(k:Cl w f c (.iface 130 (Jn a)))(l:Cl w f (c+1) (.iface 130 (Jn b))):
  cl 211 #[.slice (some (dq f c)) 2 d,Pt mb,Pt g] w (bD .nilIface (cO w.drew M gf n (.iface 130 (Jn (wrap64 (a-b)))))):=by
 have j:=ag (ek h.drew 130 (Jn (wrap64 (a-b))));have i:=ag (λW=>Fl W M a b);have hi:=l6;clear h;go_enter func211,ntmps211;go_wp2;go_region_with (first|(go_at_call 161;refine(i.out _).mono ?_;rintro e w' ⟨rfl,rfl⟩)|(go_at_call 212;refine j.out.mono ?_;rintro e w' ⟨rfl,rfl⟩))
 all_goals(go_wp2;go_ret;exact⟨rfl,rfl⟩)
theorem Ie(w:aa)(M E gf mb g f c d:Nat)(n pc:Int)(old v2:al)(a b:Int)(h:cP w M E gf n pc old v2)(m:Cl w mb 0 (Pt M))(f0:Cl w g 0 (.func (.func 162) #[Pt M] #[]))(k:Cl w f c (.iface 130 (Jn a)))(l:Cl w f (c+1) (.iface 130 (Jn b))):
  cl 211 #[.slice (some (dq f c)) 2 d,Pt mb,Pt g] w (bD .nilIface (cO w.drew M gf n (.iface 130 (Jn (wrap64 (a *b)))))):=by
 have j:=ag (ek h.drew 130 (Jn (wrap64 (a *b))));have i:=ag (λW=>Ga W M a b);have hi:=l6;clear h;go_enter func211,ntmps211;go_wp2;go_region_with (first|(go_at_call 162;refine(i.out _).mono ?_;rintro e w' ⟨rfl,rfl⟩)|(go_at_call 212;refine j.out.mono ?_;rintro e w' ⟨rfl,rfl⟩))
 all_goals(go_wp2;go_ret;exact⟨rfl,rfl⟩)
theorem LI(w:aa)(M E gf mb g f c d:Nat)(n pc:Int)(old v2:al)(a b:Int)(h:cP w M E gf n pc old v2)(m:Cl w mb 0 (Pt M))(f0:Cl w g 0 (.func (.func 163) #[Pt M] #[]))(k:Cl w f c (.iface 130 (Jn a)))(l:Cl w f (c+1) (.iface 130 (Jn b))):
  cl 211 #[.slice (some (dq f c)) 2 d,Pt mb,Pt g] w (bD .nilIface (cO w.drew M gf n (.iface 131 (.bool (decide (a<b)))))):=by
 have j:=ag (ek h.drew 131 (.bool (decide (a<b))));have i:=ag (λW=>IU W M a b);have hi:=l6;clear h;go_enter func211,ntmps211;go_wp2;go_region_with (first|(go_at_call 163;refine(i.out _).mono ?_;rintro e w' ⟨rfl,rfl⟩)|(go_at_call 212;refine j.out.mono ?_;rintro e w' ⟨rfl,rfl⟩))
 all_goals(go_wp2;go_ret;exact⟨rfl,rfl⟩)
theorem Ia(w:aa)(M E gf mb g f c d:Nat)(n pc:Int)(old v2:al)(a b:Int)(h:cP w M E gf n pc old v2)(m:Cl w mb 0 (Pt M))(f0:Cl w g 0 (.func (.func 164) #[Pt M] #[]))(k:Cl w f c (.iface 130 (Jn a)))(l:Cl w f (c+1) (.iface 130 (Jn b))):
  cl 211 #[.slice (some (dq f c)) 2 d,Pt mb,Pt g] w (bD .nilIface (cO w.drew M gf n (.iface 131 (.bool (a==b))))):=by
 have j:=ag (ek h.drew 131 (.bool (a==b)));have i:=ag (λW=>ER W M a b);have hi:=l6;clear h;go_enter func211,ntmps211;go_wp2;go_region_with (first|(go_at_call 164;refine(i.out _).mono ?_;rintro e w' ⟨rfl,rfl⟩)|(go_at_call 212;refine j.out.mono ?_;rintro e w' ⟨rfl,rfl⟩))
 all_goals(go_wp2;go_ret;exact⟨rfl,rfl⟩)
theorem bN(w:aa)(M gf:Nat)(n:Int)(v:al)(k i:Nat)(a:k≠M):(cO w M gf n v).cell? (dq k i)=w.cell? (dq k i):=by
 unfold cO;rw[World.cell?_drew,kx _ _ _ _ (by intro h;injection h with h1;exact a h1.symm),kx _ _ _ _ (by intro h;injection h with h1;exact a h1.symm),kx _ _ _ _ (by intro h;injection h with h1;exact a h1.symm)]
theorem BJ(w:aa)(M E gf mb c d a f:Nat)(n pc:Int)(old v2:al)(t:bi)(x:al)(r:Bool)(h:cP w M E gf n pc old v2)(u:Cl w mb 0 (Pt M))(f0:Cl w c 0 (.func (.func 171) #[Pt M] #[]))(j:mb≠M)(g:c≠M)(i:d≠M)(q:Cl w d a (.iface t x))(k:∀W,(Go.binOp .eql 81 (.iface t x) (.iface 207 (.agg #[]))).run prog W=.ok (.bool r) W):
  cl 215 #[.slice (some (dq d a)) 1 f,Pt mb,Pt c] w (bD .nilIface (cO w.drew M gf n (.iface 131 (.bool r)))):=by
 have m:=ag (ek h.drew 131 (.bool r));have o:=ag (show(λ(b:aa)=>b.cell? ⟨mb,0,none⟩=some (Pt M)/\b.cell? ⟨c,0,none⟩=some (.func (.func 171) #[Pt M] #[])/\b.cell? ⟨d,a,none⟩=some (.iface t x)) (cO w.drew M gf n (.iface 131 (.bool r))) from⟨(bN _ M gf n _ mb 0 j).trans u,(bN _ M gf n _ c 0 g).trans f0,(bN _ M gf n _ d _ i).trans q⟩);have l:=ag (zt w.drew M t x r k);clear h k;go_enter func215,ntmps215;go_wp2;go_region_held3 (λb=>b.cell? ⟨mb,0,none⟩=some (Pt M)/\b.cell? ⟨c,0,none⟩=some (.func (.func 171) #[Pt M] #[])/\b.cell? ⟨d,a,none⟩=some (.iface t x)) (first|go_keep|exact o.out) (first|(go_at_call 171;refine l.out.mono ?_;rintro e w' ⟨rfl,rfl⟩)|(go_at_call 212;refine m.out.mono ?_;rintro e w' ⟨rfl,rfl⟩))
 all_goals(go_wp2;go_ret;exact⟨rfl,rfl⟩)
theorem OE(w:aa)(M E gf mb c d a f:Nat)(n pc:Int)(old v2:al)(t:bi)(x:al)(r:Bool)(h:cP w M E gf n pc old v2)(u:Cl w mb 0 (Pt M))(f0:Cl w c 0 (.func (.func 173) #[Pt M] #[]))(j:mb≠M)(g:c≠M)(i:d≠M)(q:Cl w d a (.iface t x))(k:∀W,(Go.binOp .eql 81 (.iface t x) (.iface 131 (.bool false))).run prog W=.ok (.bool r) W):
  cl 215 #[.slice (some (dq d a)) 1 f,Pt mb,Pt c] w (bD .nilIface (cO w.drew M gf n (.iface 131 (.bool r)))):=by
 have m:=ag (ek h.drew 131 (.bool r));have o:=ag (show(λ(b:aa)=>b.cell? ⟨mb,0,none⟩=some (Pt M)/\b.cell? ⟨c,0,none⟩=some (.func (.func 173) #[Pt M] #[])/\b.cell? ⟨d,a,none⟩=some (.iface t x)) (cO w.drew M gf n (.iface 131 (.bool r))) from⟨(bN _ M gf n _ mb 0 j).trans u,(bN _ M gf n _ c 0 g).trans f0,(bN _ M gf n _ d _ i).trans q⟩);have l:=ag (MD w.drew M t x r k);clear h k;go_enter func215,ntmps215;go_wp2;go_region_held3 (λb=>b.cell? ⟨mb,0,none⟩=some (Pt M)/\b.cell? ⟨c,0,none⟩=some (.func (.func 173) #[Pt M] #[])/\b.cell? ⟨d,a,none⟩=some (.iface t x)) (first|go_keep|exact o.out) (first|(go_at_call 173;refine l.out.mono ?_;rintro e w' ⟨rfl,rfl⟩)|(go_at_call 212;refine m.out.mono ?_;rintro e w' ⟨rfl,rfl⟩))
 all_goals(go_wp2;go_ret;exact⟨rfl,rfl⟩)
theorem EN(w:aa)(M E gf mb c d a f:Nat)(n pc:Int)(old v2:al)(t:bi)(x p:al)(r:Bool)(h:cP w M E gf n pc old v2)(u:Cl w mb 0 (Pt M))(f0:Cl w c 0 (.func (.func 172) #[Pt M] #[]))(j:mb≠M)(g:c≠M)(i:d≠M)(q:Cl w d a (.iface t x))(k:∀W,(Instr.typeAssert (.iface t x) 81 136 true).run prog W=.ok (.tuple #[p,.bool r]) W):
  cl 215 #[.slice (some (dq d a)) 1 f,Pt mb,Pt c] w (bD .nilIface (cO w.drew M gf n (.iface 131 (.bool r)))):=by
 have m:=ag (ek h.drew 131 (.bool r));have o:=ag (show(λ(b:aa)=>b.cell? ⟨mb,0,none⟩=some (Pt M)/\b.cell? ⟨c,0,none⟩=some (.func (.func 172) #[Pt M] #[])/\b.cell? ⟨d,a,none⟩=some (.iface t x)) (cO w.drew M gf n (.iface 131 (.bool r))) from⟨(bN _ M gf n _ mb 0 j).trans u,(bN _ M gf n _ c 0 g).trans f0,(bN _ M gf n _ d _ i).trans q⟩);have l:=ag (B4 w.drew M t x r p k);clear h k;go_enter func215,ntmps215;go_wp2;go_region_held3 (λb=>b.cell? ⟨mb,0,none⟩=some (Pt M)/\b.cell? ⟨c,0,none⟩=some (.func (.func 172) #[Pt M] #[])/\b.cell? ⟨d,a,none⟩=some (.iface t x)) (first|go_keep|exact o.out) (first|(go_at_call 172;refine l.out.mono ?_;rintro e w' ⟨rfl,rfl⟩)|(go_at_call 212;refine m.out.mono ?_;rintro e w' ⟨rfl,rfl⟩))
 all_goals(go_wp2;go_ret;exact⟨rfl,rfl⟩)
theorem LH(w:aa)(M E gf mb f c a j:Nat)(n pc:Int)(old v2:al)(t d:bi)(x y:al)(h:cP w M E gf n pc old v2)(v:Cl w mb 0 (Pt M))(f0:Cl w f 0 (.func (.func 166) #[Pt M] #[]))(l:mb≠M)(k:f≠M)(i:c≠M)(lmb:mb<w.heap.size)(lfb:f<w.heap.size)(lgv:c<w.heap.size)(r:Cl w c a (.iface t x))(u:Cl w c (a+1) (.iface d y)):
  cl 213 #[.slice (some (dq c a)) 2 j,Pt mb,Pt f] w (bD .nilIface (cO (w.drew.alloc (.cells #[.iface t x,.iface d y] 205)) M gf n (.iface 136 (Pt w.heap.size)))):=by
 have o:=ag (ek (h.drew.alloc (.cells #[.iface t x,.iface d y] 205)) 136 (Pt w.heap.size));have g:=ag (show(λ(b:aa)=>b.cell? ⟨mb,0,none⟩=some (Pt M)/\b.cell? ⟨f,0,none⟩=some (.func (.func 166) #[Pt M] #[])/\b.cell? ⟨c,a,none⟩=some (.iface t x)/\b.cell? ⟨c,a+1,none⟩=some (.iface d y)) (w.drew.alloc (.cells #[.iface t x,.iface d y] 205)) from⟨(kn _ _ _ lmb).trans v,(kn _ _ _ lfb).trans f0,(kn _ _ _ lgv).trans r,(kn _ _ _ lgv).trans u⟩);have q:=ag (show(λ(b:aa)=>b.cell? ⟨mb,0,none⟩=some (Pt M)/\b.cell? ⟨f,0,none⟩=some (.func (.func 166) #[Pt M] #[])/\b.cell? ⟨c,a,none⟩=some (.iface t x)/\b.cell? ⟨c,a+1,none⟩=some (.iface d y)) (cO (w.drew.alloc (.cells #[.iface t x,.iface d y] 205)) M gf n (.iface 136 (Pt w.heap.size))) from⟨(bN _ M gf n _ mb 0 l).trans g.out.1,(bN _ M gf n _ f 0 k).trans g.out.2.1,(bN _ M gf n _ c _ i).trans g.out.2.2.1,(bN _ M gf n _ c _ i).trans g.out.2.2.2⟩);have m:=ag (Hr w.drew M t d x y);clear h;go_enter func213,ntmps213;go_wp2;go_region_held3 (λ(b:aa)=>b.cell? ⟨mb,0,none⟩=some (Pt M)/\b.cell? ⟨f,0,none⟩=some (.func (.func 166) #[Pt M] #[])/\b.cell? ⟨c,a,none⟩=some (.iface t x)/\b.cell? ⟨c,a+1,none⟩=some (.iface d y)) (first|exact g.out|exact q.out|go_keep) (first|(go_at_call 166;refine m.out.mono ?_;rintro e w' ⟨rfl,rfl⟩)|(go_at_call 212;refine o.out.mono ?_;rintro e w' ⟨rfl,rfl⟩))
 all_goals(go_wp2;go_ret;exact⟨rfl,rfl⟩)
theorem Hm(w:aa)(u:a8)(n a:Nat)(h:n<=a)(b:a<=maxLen):
  cl 193 #[.slice u n a] w (bD (.slice u n n) w):=by
 unfold maxLen at b;go_enter func193,ntmps193;go_wp2;go_ret;exact⟨rfl,rfl⟩
def lZ(w:aa)(M gf:Nat)(z:ao)(ns vs:al)(e:Int):aa:=
 (((w.setCell ⟨M,3,none⟩ (.pointer (some ⟨w.heap.size,0,none⟩))).setCell ⟨M,1,none⟩ (.int .i64 e)).alloc (.cells #[.string z,ns,vs,.pointer (some ⟨gf,0,none⟩)] 176)).drew
theorem EP(w:aa)(M b lb ob mb gf:Nat)(z nm:ao)(u:a8)(c d:Nat)(e pc:Int)(args old:al)(D:M<w.heap.size)(k1:Cl w M 1 (Jn pc))(k3:Cl w M 3 old)(hf:∀o,w.frozen? (dq M o)=false)(L:Cl w b 0 (.string z))(l1:Cl w lb 1 (.slice u c d))(l2:Cl w lb 2 (Jn e))(N:Cl w ob 0 (Pt gf))(E:Cl w mb 0 (Pt M))(m:b≠M)(g:lb≠M)(r:ob≠M)(j:mb≠M)(lmb:mb<w.heap.size)(llb:lb<w.heap.size)(lnb:b<w.heap.size)(lob:ob<w.heap.size)(q:c<=d)(f:d<=maxLen)(A:a8)(y t:Nat):
  cl 192 #[.slice A y t,Pt b,Pt lb,Pt ob,Pt mb] w (bD .nilIface (lZ w M gf z (.slice u c c) (.slice A y t) e)):=by
 have F:=ag (λW=>Hm W u c d q f);have H:=hf 1;have O:=hf 3;have a:∀(k i:Nat) (v:al) (o:Obj),k≠M->k<w.heap.size->((w.setCell ⟨M,3,none⟩ v).alloc o).cell? ⟨k,i,none⟩=w.cell? ⟨k,i,none⟩:=λk i v o I J=>by
  rw[kn _ _ _ (by simpa using J),kx _ _ _ _ (by intro h;injection h with h1;exact I h1.symm)]
 have P:∀v o,((w.setCell ⟨M,3,none⟩ v).alloc o).cell? ⟨mb,0,none⟩=some (Pt M):=λv o=>(a mb 0 v o j lmb).trans E;have Q:∀v o,((w.setCell ⟨M,3,none⟩ v).alloc o).cell? ⟨lb,2,none⟩=some (Jn e):=λv o=>(a lb 2 v o g llb).trans l2;have R:∀v o,((w.setCell ⟨M,3,none⟩ v).alloc o).cell? ⟨M,1,none⟩=some (Jn pc):=λv o=>by
  rw[kn _ _ _ (by simpa using D),kx _ _ _ _ (by simp)];exact k1
 have S:∀v o,((w.setCell ⟨M,3,none⟩ v).alloc o).frozen? ⟨M,1,none⟩=false:=λv o=>by
  rw[RO _ _ _ (by simpa using D),St];exact H
 have G:=ag (λv o=>ei ((a mb 0 v o j lmb).trans E) (ei ((a b 0 v o m lnb).trans L) (ei ((a lb 1 v o g llb).trans l1) ((a ob 0 v o r lob).trans N))));clear hf f a;go_enter func192,ntmps192;go_wp2;go_region_held3 (λl=>l.cell? ⟨mb,0,none⟩=some (Pt M)/\l.cell? ⟨b,0,none⟩=some (.string z)/\l.cell? ⟨lb,1,none⟩=some (.slice u c d)/\l.cell? ⟨ob,0,none⟩=some (Pt gf)) (first|exact G.out _ _|go_keep) (first|(go_at_call 193;refine(F.out _).mono ?_;rintro e w' ⟨rfl,rfl⟩))
 all_goals(go_wp2;go_ret;exact⟨rfl,rfl⟩)
theorem Fh(w:aa)(M gf:Nat)(n:Int)(k3:Cl w M 3 (Pt gf))(a:Hid (cl 191 #[Pt gf,Jn n] w (bD (.pointer none) w))):
  cl 118 #[Pt M,Jn n] w (bD (dR 5) w):=by
 go_enter func118,ntmps118;go_wp2_with fail;refine a.out.mono ?_;rintro e w1 ⟨rfl,rfl⟩;go_wp2;go_ret;exact⟨rfl,rfl⟩
def GK(w:aa)(Q:Nat->Nat->Prop)(e:bo)(w':aa):Prop:=w'=w/\∃a o,Q a o/\e=.returned (.pointer (some ⟨a,o,none⟩))
def PQ(w:aa)(M:Nat)(Q:Nat->Nat->Prop)(e:bo)(w':aa):Prop:=∃a o t x,Q a o/\w.cell? ⟨a,o,none⟩=some (.iface t x)/\e=.returned .nilIface/\w'=w.setCell ⟨M,2,none⟩ (.iface t x)
theorem Fi(w:aa)(M gf:Nat)(n:Int)(v2:al)(Q:Nat->Nat->Prop)(k3:Cl w M 3 (Pt gf))(k2:Cl w M 2 v2)(h:w.frozen? (dq M 2)=false)(d:Hid (∀a o,Q a o->∃t x,Cl w a o (.iface t x)))(c:Hid (cl 191 #[Pt gf,Jn n] w (GK w Q))):
  cl 118 #[Pt M,Jn n] w (PQ w M Q):=by
 go_enter func118,ntmps118;go_wp2_with fail;refine c.out.mono ?_;rintro e w1 ⟨f,a,o,b,rfl⟩;obtain rfl:w=w1:=f.symm;obtain⟨t,x,g⟩:=d.out a o b;have H:=ag (ei b g);clear b;go_wp2;go_ret;exact⟨a,o,t,x,H.out.1,H.out.2,rfl,rfl⟩
theorem J2(w:aa)(M E gf:Nat)(n:Int)(q:a8)(k6:Cl w M 6 (Pt E))(c:w.frozen? (dq M 6)=false)(b:Cl w E 0 (.pointer q))(k3:Cl w M 3 (Pt gf))(a:Hid (cl 191 #[Pt gf,Jn n] (w.setCell (dq M 6) (.pointer q)) (bD (.pointer none) (w.setCell (dq M 6) (.pointer q))))):
  cl 126 #[Pt M,Jn n] w (bD (dR 5) (w.setCell (dq M 6) (.pointer q))):=by
 go_enter func126,ntmps126;go_wp2_with fail;refine a.out.mono ?_;rintro e w1 ⟨rfl,rfl⟩;go_wp2;go_ret;exact⟨rfl,rfl⟩
def QZ(w:aa)(M:Nat)(q:a8)(v:al)(Q:Nat->Nat->Prop)(e:bo)(w':aa):Prop:=∃a o,Q a o/\e=.returned .nilIface/\w'=(((w.setCell ⟨M,6,none⟩ (.pointer q)).setCell ⟨a,o,none⟩ v).setCell ⟨M,2,none⟩ (.iface 259 (.agg #[])))
theorem J3(w:aa)(M E gf:Nat)(n:Int)(q:a8)(t:bi)(x:al)(Q:Nat->Nat->Prop)(k6:Cl w M 6 (Pt E))(r:w.frozen? (dq M 6)=false)(l:Cl w E 0 (.pointer q))(k3:Cl w M 3 (Pt gf))(k2:Cl w M 2 (.iface t x))(m:w.frozen? (dq M 2)=false)(f:Hid (∀a o,Q a o->a≠M/\(∃y,Cl w a o y)/\w.frozen? (dq a o)=false))(d:Hid (cl 191 #[Pt gf,Jn n] (w.setCell (dq M 6) (.pointer q)) (GK (w.setCell (dq M 6) (.pointer q)) Q))):
  cl 126 #[Pt M,Jn n] w (QZ w M q (.iface t x) Q):=by
 go_enter func126,ntmps126;go_wp2_with fail;refine d.out.mono ?_;rintro e w1 ⟨g,a,o,b,rfl⟩;obtain⟨c,⟨y,i⟩,u⟩:=f.out a o b;subst g;have j:Cl (w.setCell (dq M 6) (.pointer q)) a o y:=(kx _ _ _ _ (by intro h;injection h with h1;exact c h1.symm)).trans i;have k:Cl ((w.setCell (dq M 6) (.pointer q)).setCell (dq a o) (.iface t x)) M 2 (.iface t x):=(kx _ _ _ _ (by intro h;injection h with h1;exact c h1)).trans ((kx _ _ _ _ (by simp)).trans k2);have H:=ag b;clear b;go_wp2;go_ret;exact⟨a,o,H.out,rfl,rfl⟩
def QL(M:Nat)(P:bo->aa->Prop)(e:bo)(w':aa):Prop:=∃a,e=.returned .nilIface/\P (.returned (.tuple #[])) a/\w'=a.setCell ⟨M,2,none⟩ (.iface 259 (.agg #[]))
theorem BF(w:aa)(M E gf:Nat)(n:Int)(q:a8)(t:bi)(x:al)(P:bo->aa->Prop)(k6:Cl w M 6 (Pt E))(d:w.frozen? (dq M 6)=false)(c:Cl w E 0 (.pointer q))(k3:Cl w M 3 (Pt gf))(k2:Cl w M 2 (.iface t x))(a:Hid (cl 102 #[Pt gf,Jn n,.iface t x] (w.setCell (dq M 6) (.pointer q)).drew P))(b:Hid (∀e w2,P e w2->e=.returned (.tuple #[])/\Cl w2 M 2 (.iface t x)/\w2.frozen? (dq M 2)=false)):
  cl 125 #[Pt M,Jn n] w (QL M P):=by
 go_enter func125,ntmps125;go_wp2_with fail;go_region_with (go_at_call 102;refine a.out.mono ?_;intro e w2 hp;obtain⟨rfl,f,g⟩:=b.out e w2 hp;have H:=ag hp;clear hp)
 all_goals
  go_wp2;go_ret;exact⟨_,rfl,H.out,rfl⟩
def PZ(w:aa)(M:Nat)(below:a8)(depth:Int)(frame:a8)(n:Int)(l:a7)(e:bo)(w':aa):Prop:=∃a g q,e=.returned .nilIface/\w'=a.setCell ⟨M,6,none⟩ (Pt g)/\Below w.heap.size w a/\w.heap.size<=g/\a.heap[g]? =some (Obj.cells (ph below depth frame n q) 115 (0,0))/\ld a q l
theorem Mw(w:aa)(M E:Nat)(n:Int)(below frame got:a8)(depth at0:Int)(l:a7)(c:M<w.heap.size)(k6:Cl w M 6 (Pt E))(o:w.frozen? (dq M 6)=false)(b:w.heap[E]? =some (.cells (ph below depth frame at0 got) 115))(h:ld w got l):
  cl 122 #[Pt M,Jn n] w (PZ w M below depth frame n l):=by
 have m:=ag (AQ w E below frame got depth at0 n b);have k:=ag h;clear b h;go_enter func122,ntmps122;go_wp2_with fail;refine m.out.mono ?_;rintro e w1 ⟨g,rfl,f,d,hb⟩;have q:w1.cell? (dq M 6)=some (.pointer (eb E)):=by rw[hb.cell (p:=(dq M 6)) c];exact k6
 have r:w1.frozen? (dq M 6)=false:=by rw[hb.frozen (p:=(dq M 6)) c];exact o
 have a:=ag hb;have i:=ag d;have j:=ag f;clear hb d f;go_wp2;go_ret;exact⟨w1,g,got,rfl,rfl,a.out,j.out,i.out,ld.ak (TX a.out) _ _ k.out⟩
theorem L9(w:aa)(M E:Nat)(n:Int)(below frame got:a8)(depth at0:Int)(t:bi)(x:al)(l:a7)(j:l.length<=1000000)(i:M<w.heap.size)(k6:Cl w M 6 (Pt E))(v:w.frozen? (dq M 6)=false)(k2:Cl w M 2 (.iface t x))(k:w.heap[E]? =some (.cells (ph below depth frame at0 got) 115))(r:ld w got l):
  cl 121 #[Pt M,Jn n] w (PZ w M below depth frame n (.iface t x::l)):=by
 have u:=ag (sS w.drew E below frame got depth at0 t x l j k (ld.ak (show aC _ w w.drew from λ_ _ h=>h) _ _ r));clear k r;go_enter func121,ntmps121;go_wp2_with fail;go_region_with (first|(go_at_call 194;refine u.out.mono ?_;rintro e w1 ⟨q,⟨g,rfl,o,m,hb⟩,hi⟩;have y:w1.cell? ⟨M,6,none⟩=some (Pt E):=(by rw[hb.cell (p:=⟨M,6,none⟩) i];exact k6);have z:w1.frozen? ⟨M,6,none⟩=false:=(by rw[hb.frozen (p:=⟨M,6,none⟩) i];exact v);have b:=ag (ei o (ei m (ei hb hi)));clear o m hb hi)|(go_at_call 195;refine(AQ _ _ below frame _ depth at0 n b.out.2.1).mono ?_;rintro e w2 ⟨A,rfl,d,c,a⟩;have m62:w2.cell? ⟨M,6,none⟩=some (Pt E):=(by rw[a.cell (p:=⟨M,6,none⟩) (gr i b.out.2.2.1.size)];exact y);have n62:w2.frozen? ⟨M,6,none⟩=false:=(by rw[a.frozen (p:=⟨M,6,none⟩) (gr i b.out.2.2.1.size)];exact z);have f:=ag (ei d (ei c a));clear d c a))
 all_goals
  go_wp2;go_ret;exact⟨_,_,_,rfl,rfl,((fL w.heap.size w).drew).trans (b.out.2.2.1.trans (f.out.2.2.mono b.out.2.2.1.size)),ku b.out.2.2.1.size f.out.1,f.out.2.1,ld.ak (TX f.out.2.2) _ _ b.out.2.2.2⟩
theorem aQ(w:aa)(o:Obj)(k:Nat):(w.alloc o).heap[k]? =if k=w.heap.size then some o else w.heap[k]?:=by
 show(w.heap.push o)[k]? =_;rw[Array.getElem?_push]
theorem dv(w:aa)(k:Nat):w.drew.heap[k]? =w.heap[k]?:=rfl
theorem xw(w:aa):w.drew.heap.size=w.heap.size:=rfl
theorem eY(w:aa)(b o k:Nat)(v:al)(h:k≠b):(w.setCell (dq b o) v).heap[k]? =w.heap[k]?:=R6 _ _ _ _ h
theorem Oh(w:aa)(a b c d e:Obj)(M:Nat)(v:al)(l:M<w.heap.size)(W:aa)(i:W=((((((w.alloc a).alloc b).alloc c).alloc d).alloc e).setCell (dq M 2) v).drew):
  W.heap[w.heap.size]? =some a/\W.heap[w.heap.size+1]? =some b/\W.heap[w.heap.size+1+1]? =some c/\W.heap[w.heap.size+1+1+1]? =some d/\W.heap[w.heap.size+1+1+1+1]? =some e/\(∀k,k<w.heap.size->k≠M->W.heap[k]? =w.heap[k]?)/\(∀c T,w.heap[M]? =some (Obj.cells c T (0,0))->W.heap[M]? =some (Obj.cells (c.setIfInBounds 2 v) T (0,0)))/\W.os=w.os/\W.tape=w.tape/\W.output=w.output/\w.heap.size<=W.heap.size:=by
 have f:∀k,k≠M->W.heap[k]? =(((((w.alloc a).alloc b).alloc c).alloc d).alloc e).heap[k]?:=λk f=>by rw[i,dv,eY _ _ _ _ _ f]
 have g:∀(w:aa) (o:Obj),(w.alloc o).heap.size=w.heap.size+1:=λw o=>by simp
 refine⟨?_,?_,?_,?_,?_,λk h1 h2=> ?_,λj T h=> ?_,?_,?_,?_,?_⟩
 .rw[f _ (by omega)];simp only[aQ,g];repeat first|rw[fN trivial]|rw[fb (by omega)]
 .rw[f _ (by omega)];simp only[aQ,g];repeat first|rw[fN trivial]|rw[fb (by omega)]
 .rw[f _ (by omega)];simp only[aQ,g];repeat first|rw[fN trivial]|rw[fb (by omega)]
 .rw[f _ (by omega)];simp only[aQ,g];repeat first|rw[fN trivial]|rw[fb (by omega)]
 .rw[f _ (by omega)];simp only[aQ,g];repeat first|rw[fN trivial]|rw[fb (by omega)]
 .rw[f k h2];simp only[aQ,g];rw[fb (by omega),fb (by omega),fb (by omega),fb (by omega),fb (by omega)]
 .rw[i,dv];refine TH ?_;simp only[aQ,g];rw[fb (by omega),fb (by omega),fb (by omega),fb (by omega),fb (by omega)];exact h
 .rw[i];rfl
 .rw[i];rfl
 .rw[i];rfl
 .rw[i,xw];simp;omega
def KV(w:aa)(M gf:Nat)(z:ao)(u:al)(f:Nat)(e:Nat)(d:bo)(w':aa):Prop:=
 ∃g a lb ob mb b,d=.returned .nilIface/\w.heap.size<=g/\w.heap.size<=a/\(∀k,k<w.heap.size->k≠M->w'.heap[k]? =w.heap[k]?)/\(∀c,w.heap[M]? =some (Obj.cells c 119 (0,0))->w'.heap[M]? =some (Obj.cells (c.setIfInBounds 2 (.iface 216 (Pt g))) 119 (0,0)))/\w'.os=w.os/\w'.tape=w.tape/\w'.output=w.output/\w.heap.size<=w'.heap.size/\
  w'.heap[g]? =some (Obj.cells #[.string b,Jn f,.func (.func 192) #[] #[Pt a,Pt lb,Pt ob,Pt mb]] 220 (0,0))/\
  w'.heap[a]? =some (Obj.cells #[.string b] 9 (0,0))/\w'.heap[lb]? =some (Obj.cells #[.string z,u,Jn e] 213 (0,0))/\w'.heap[ob]? =some (Obj.cells #[Pt gf] 112 (0,0))/\w'.heap[mb]? =some (Obj.cells #[Pt M] 73 (0,0))
theorem Cc(w:aa)(M b g len d gf l m:Nat)(n:Nat)(z:ao)(v2:al)(e:Nat)(f:M<w.heap.size)(hb:b<w.heap.size)(q:g<w.heap.size)(P:Cl w M 0 (Pt b))(k2:Cl w M 2 v2)(L:w.frozen? (dq M 2)=false)(k3:Cl w M 3 (Pt gf))(J:Cl w b 3 (.slice (eb g) len d))(R:n<len)(I:len<=1000000)(u:a8)(Q:Cl w g (n *3) (.string z))(x1:Cl w g (n *3+1) (.slice u l m))(x2:Cl w g (n *3+2) (Jn e)):
  cl 119 #[Pt M,Jn n] w (KV w M gf z (.slice u l m) l e):=by
 have O:∀(H:Fn) (first d:bc) (w:aa),(Instr.makeFunc H first d).run prog w=.ok (.func H first d) w:=λ_ _ _ _=>rfl;have hlt:∀(k i:Nat) (o1 o2 a:Obj),k<w.heap.size->(((w.alloc o1).alloc o2).alloc a).cell? ⟨k,i,none⟩=w.cell? ⟨k,i,none⟩:=λk i o1 o2 a N=>by
  rw[kn _ _ _ (by simp;omega),kn _ _ _ (by simp;omega),kn _ _ _ N]
 have U:∀o1 o2 a,(((w.alloc o1).alloc o2).alloc a).cell? ⟨M,0,none⟩=some (Pt b):=λo1 o2 a=>(hlt M 0 o1 o2 a f).trans P;have W:∀o1 o2 a,(((w.alloc o1).alloc o2).alloc a).cell? ⟨M,3,none⟩=some (Pt gf):=λo1 o2 a=>(hlt M 3 o1 o2 a f).trans k3;have X:∀o1 o2 a,(((w.alloc o1).alloc o2).alloc a).cell? ⟨b,3,none⟩=some (.slice (eb g) len d):=λo1 o2 a=>(hlt b 3 o1 o2 a hb).trans J;have Y:∀o1 o2 a,(((w.alloc o1).alloc o2).alloc a).cell? ⟨g,n *3,none⟩=some (.string z):=λo1 o2 a=>(hlt g _ o1 o2 a q).trans Q;have Z:∀o1 o2 a,(((w.alloc o1).alloc o2).alloc a).cell? ⟨g,n *3+1,none⟩=some (.slice u l m):=λo1 o2 a=>(hlt g _ o1 o2 a q).trans x1;have q7:∀o1 o2 a,(((w.alloc o1).alloc o2).alloc a).cell? ⟨g,n *3+2,none⟩=some (Jn e):=λo1 o2 a=>(hlt g _ o1 o2 a q).trans x2;have V:∀o1 o2 a h j,(((((w.alloc o1).alloc o2).alloc a).alloc h).alloc j).cell? ⟨M,2,none⟩=some v2:=λo1 o2 a h j=>by
  rw[kn _ _ _ (by simp;omega),kn _ _ _ (by simp;omega),hlt M 2 o1 o2 a f];exact k2
 have S:∀o1 o2 a h j,(((((w.alloc o1).alloc o2).alloc a).alloc h).alloc j).frozen? ⟨M,2,none⟩=false:=λo1 o2 a h j=>by
  rw[RO _ _ _ (by simp;omega),RO _ _ _ (by simp;omega),RO _ _ _ (by simp;omega),RO _ _ _ (by simp;omega),RO _ _ _ f];exact L
 clear hlt;go_enter func119,ntmps119;go_wp2;go_region
 all_goals go_wp2
 all_goals go_ret
 all_goals obtain⟨r,t,v,y,A,D,E,F,G,a10,a11⟩:=Oh w _ _ _ _ _ M _ f _ rfl
 all_goals first
  |exact⟨_,_,_,_,_,_,rfl,by omega,by omega,D,λc o=>E c _ o,F,G,a10,a11,A,y,t,v,r⟩
  |exact⟨_,_,_,_,_,_,rfl,by omega,by omega,D,λc o=>E c _ o,F,G,a10,a11,A,y,v,t,r⟩
theorem CY(w:aa)(M E gf tb mb c a len d:Nat)(n pc:Int)(t:bi)(x old v2 z:al)(f:E≠M)(k6:Cl w M 6 z)(k1:Cl w M 1 (Jn pc))(k2:Cl w M 2 v2)(k3:Cl w M 3 old)(hf:∀o,w.frozen? (dq M o)=false)(e3:Cl w E 3 (Jn n))(e2:Cl w E 2 (Pt gf))(F:Cl w tb 0 (Pt E))(y:Cl w mb 0 (Pt M))(v:mb≠M)(g:c≠M)(l:0<len)(D:len<=1000000)(q:Cl w c a (.iface t x)):
  cl 231 #[.slice (some (dq c a)) len d,Pt tb,Pt mb] w (bD .nilIface ((((w.setCell (dq M 6) (Pt E)).setCell (dq M 2) (.iface t x)).setCell (dq M 1) (Jn n)).setCell (dq M 3) (Pt gf)).drew.drew):=by
 have A:=hf 6;have k:Cl (w.setCell (dq M 6) (Pt E)) M 6 (Pt E):=SA _ _ _ k6;have h:Cl (w.setCell (dq M 6) (Pt E)) M 1 (Jn pc):=(kx _ _ _ _ (by simp)).trans k1;have i:Cl (w.setCell (dq M 6) (Pt E)) M 2 v2:=(kx _ _ _ _ (by simp)).trans k2;have j:Cl (w.setCell (dq M 6) (Pt E)) M 3 old:=(kx _ _ _ _ (by simp)).trans k3;have h3:Cl (w.setCell (dq M 6) (Pt E)) E 3 (Jn n):=(kx _ _ _ _ (by simp)).trans e3;have h2:Cl (w.setCell (dq M 6) (Pt E)) E 2 (Pt gf):=(kx _ _ _ _ (by simp)).trans e2;have u:Cl (w.setCell (dq M 6) (Pt E)) mb 0 (Pt M):=(kx _ _ _ _ (by simp)).trans y;have r:Cl (w.setCell (dq M 6) (Pt E)) c a (.iface t x):=(kx _ _ _ _ (by simp[S6 g])).trans q;have b:∀o,(w.setCell (dq M 6) (Pt E)).frozen? (dq M o)=false:=λo=>(St _ _ _ _).trans (hf o);have m:=ag (zc (w.setCell (dq M 6) (Pt E)).drew M E gf n pc t x old v2 f k h i j (b 1) (b 2) (b 3) h3 h2);clear k h i j b h3 h2;go_enter func231,ntmps231;go_wp2_with fail;go_region_with (go_at_call 212;refine m.out.mono ?_;rintro e w' ⟨rfl,rfl⟩)
 all_goals(go_wp2;go_ret;exact⟨rfl,rfl⟩)
structure Gw(X:a9)(ow:Nat->Option Nat)(w:aa)(X':a9)(ow':Nat->Option Nat)(w':aa):Prop where
 upd:aB (λk=>ow k≠none) w w'
 x1:∀k,k<w.heap.size->X k->ow k=none->X' k
 x2:∀k,k<w.heap.size->X' k->X k
 o2:∀k,k<w.heap.size->ow k=none->ow' k=none
theorem Gw.refl(X:a9)(ow:Nat->Option Nat)(w:aa):Gw X ow w X ow w:=⟨TU _ _,λ_ _ h _=>h,λ_ _ h=>h,λ_ _ h=>h⟩
theorem Gw.trans{X:a9}{w:aa}(h:Gw X ow w X1 ow1 w1)(k:Gw X1 ow1 w1 X2 ow2 w2):Gw X ow w X2 ow2 w2:=
 ⟨h.upd.trans k.upd (λj a c e=>c (h.o2 j a e)),λj a b ho=>k.x1 j (gr a h.upd.size) (h.x1 j a b ho) (h.o2 j a ho),λj a b=>h.x2 j a (k.x2 j (gr a h.upd.size) b),λj a ho=>k.o2 j (gr a h.upd.size) (h.o2 j a ho)⟩
def pH(er:Int):Nat->al->Prop
 |0,v=>v=dR er
 |k+1,v=>∃z u,v=.iface 178 (.agg #[.string z,u])/\pH er k u
def ME(B:Nat)(w:aa)(X:a9)(ow:Nat->Option Nat)(M b:Nat)(st er a:Int)(c:au)(o:List au):Prop:=
 ∃out,w.heap[M]? =some (Obj.cells (eL b 0 .nilIface (.pointer none) .nilIface (.slice none 0 0) (.pointer none) out st er a ⟨c.toArray⟩) 119 (0,0))/\lC w B ow out o/\(∀k t,ow k=some t->X k)/\mu w B X/\ow M=some 0/\Tab B w
def aV(B K:Nat)(X:a9)(ow:Nat->Option Nat)(w:aa)(M b:Nat)(C:Cd):SR->bo->aa->Prop
 |.ok s',e,w'=>e=.returned .nilIface/\∃X' ow',MR B K w' X' ow' M b C s'/\Gw X ow w X' ow' w'
 |.err er d o,e,w'=>∃v k,e=.returned v/\k<=1/\pH er k v/\∃X' ow' s',MR B K w' X' ow' M b C s'/\Gw X ow w X' ow' w'/\s'.st.length=d+1/\s'.out=o
 |.done t o,e,w'=>e=.returned .nilIface/\∃X' ow',ME B w' X' ow' M b 1 0 0 t o/\Gw X ow w X' ow' w'
 |.bad,_,_=>True
theorem RS.sy{w:aa}{X:a9}{b:Nat}{val out:al}{top:a8}(h:RS B K w X ow mo mf M b C s val app args out top gf)(s':MS)(val' app' args':al)(top':a8)(a:Nat)(ho:s'.out=s.out)(c:s'.frs=s.frs)(d:s'.obs=s.obs)(g:OV w mo s'.val val')(hf:mf s'.fr=some a)(e:A0 w ow mo s'.app app' args')(f:Ba w mo mf top' s'.st):
  RS B K w X ow mo mf M b C s' val' app' args' out top' a:=
 ⟨h.code,g,hf,e,f,by rw[ho];exact h.out,by rw[c];exact h.frs,by rw[d];exact h.obs,h.mlt,by rw[d];exact h.mdm,h.mcl,h.inj,h.mcd,by rw[c];exact h.fdm,h.owx,h.xty,h.owM,h.tab,h.hB⟩
theorem RS.gw{w:aa}{X:a9}{b:Nat}{val out:al}{top:a8}(h:RS B K w X ow mo mf M b C s val app args out top gf)(a:aB (λk=>k=M) w w'):Gw X ow w X ow w':=
 ⟨a.mono λj e=>by subst e;rw[h.owM];simp,λ_ _ h _=>h,λ_ _ h=>h,λ_ _ h=>h⟩
theorem bq{w:aa}{b:Nat}{val fr top out:al}{st:Int}(h:w.heap[M]? =some (.cells (eL b pc val fr app args top out st er de va) 119)):
  w.cell? ⟨M,0,none⟩=some (aD b)/\w.cell? ⟨M,1,none⟩=some (Jn pc)/\w.cell? ⟨M,2,none⟩=some val/\w.cell? ⟨M,3,none⟩=some fr/\w.cell? ⟨M,4,none⟩=some app/\w.cell? ⟨M,5,none⟩=some args/\w.cell? ⟨M,6,none⟩=some top/\w.cell? ⟨M,7,none⟩=some out/\w.cell? ⟨M,8,none⟩=some (Jn st)/\w.cell? ⟨M,9,none⟩=some (Jn er)/\w.cell? ⟨M,10,none⟩=some (Jn de)/\w.cell? ⟨M,11,none⟩=some (.string va):=by
 refine⟨?_,?_,?_,?_,?_,?_,?_,?_,?_,?_,?_,?_⟩<;>rw[ae h]<;>rfl
theorem cG{w:aa}{c:bc}(b:w.heap[M]? =some (.cells c 119))(f:aB (λk=>k=M) w w')(d:T≠119):aC T w w':=
 T1 f λk g e a=>by subst e;rw[b] at a;cases a;exact d rfl
def T8:=@cG
theorem Ba.cG{w:aa}{c:bc}{l:List En}(h:Ba w mo mf p l)(a:w.heap[M]? =some (.cells c 119))(b:aB (λk=>k=M) w w'):Ba w' mo mf p l:=
 h.ak (T8 a b (by decide)) (T8 a b (by decide)) (T8 a b (by decide)) (TV _) (TV _)
theorem VX.cG{w:aa}{c:bc}{v:V}(h:VX w mo v x)(a:w.heap[M]? =some (.cells c 119))(b:aB (λk=>k=M) w w'):VX w' mo v x:=VX.ak (T8 a b (by decide)) (TV _) _ _ h
theorem RS.go{w:aa}{X:a9}{b:Nat}{val out:al}{top:a8}(h:RS B K w X ow mo mf M b C s val app args out top gf)(q:w.heap[M]? =some (.cells (eL b s.pc val (aD gf) app args (.pointer top) out 0 0 0 ⟨#[]⟩) 119))(i:aB (λk=>k=M) w w')(s':MS)(val' app' args':al)(top':a8)(a:Nat)(c:w'.heap[M]? =some (.cells (eL b s'.pc val' (aD a) app' args' (.pointer top') out 0 0 0 ⟨#[]⟩) 119))(ho:s'.out=s.out)(d:s'.frs=s.frs)(e:s'.obs=s.obs)(f:RS B K w' X ow mo mf M b C s val app args out top gf->OV w' mo s'.val val'/\mf s'.fr=some a/\A0 w' ow mo s'.app app' args'/\Ba w' mo mf top' s'.st):
  ∃X' ow',MR B K w' X' ow' M b C s'/\Gw X ow w X' ow' w':=by
 have g:=h.ext q i c;obtain⟨j,l,m,o⟩:=f g;exact⟨X,ow,⟨mo,mf,val',app',args',out,top',a,c,g.sy s' val' app' args' top' a ho d e j l m o⟩,h.gw i⟩
theorem gA(w:aa)(p:Addr)(v:al)(o:Obj):((w.setCell p v).alloc o).heap[w.heap.size]? =some o:=by
 rw[aQ,fN (by simp)]
theorem aY(w:aa)(M o:Nat)(v:al):aB (λk=>k=M) w (w.setCell (dq M o) v):=(TU _ w).setCell _ _ (λ_=>rfl)
theorem MR.self{w:aa}{X:a9}{b:Nat}{val out:al}{top:a8}(h:RS B K w X ow mo mf M b C s val app args out top gf)(a:w.heap[M]? =some (.cells (eL b s.pc val (aD gf) app args (.pointer top) out 0 0 0 ⟨#[]⟩) 119)):MR B K w X ow M b C s:=⟨mo,mf,val,app,args,out,top,gf,a,h⟩
theorem rB{w:aa}{X:a9}{b:Nat}{val out:al}{top:a8}(h:RS B K w X ow mo mf M b C s val app args out top gf)(c:w.heap[M]? =some (.cells (eL b s.pc val (aD gf) app args (.pointer top) out 0 0 0 ⟨#[]⟩) 119))(er:Int)(v:al)(k:Nat)(d:k<=1)(f:pH er k v)(w':aa)(g:w'=w)(a:eE s er≠.bad):aV B K X ow w M b C (eE s er) (.returned v) w':=by
 subst g;unfold eE at *;cases hst:s.st with
 |nil=>rw[hst] at a;exact absurd rfl a
 |cons e r=>exact⟨v,k,rfl,d,f,X,ow,s,MR.self h c,Gw.refl _ _ _,by rw[hst];rfl,rfl⟩
theorem E3{w:aa}{X:a9}{b:Nat}{val out:al}{top:a8}(h:RS B K w X ow mo mf M b C s val app args out top gf)(a:w.heap[M]? =some (.cells (eL b s.pc val (aD gf) app args (.pointer top) out 0 0 0 ⟨#[]⟩) 119))(n:Int):cl 116 #[Pt M,Jn n] w (aV B K X ow w M b C (dV C s 0 n)):=by
 obtain⟨d,k1,k2,k3,f,g,k6,i,j,k,k10,k11⟩:=bq a;refine(Ir w M gf n _ (ai a) k3 k6 (ah a 6)).mono ?_;rintro e w' ⟨rfl,rfl⟩;refine⟨rfl,h.go a ((aY w M 6 _).alloc _) _ val app args (eb w.heap.size) gf ((aw (TH a)).trans rfl) rfl rfl rfl λc=>⟨c.val,c.fr,c.app,?_⟩⟩;exact⟨w.heap.size,none,gf,none,rfl,gA _ _ _ _,c.fr,⟨[],rfl,trivial⟩,kc _,kc _,rfl⟩
theorem EO{w:aa}{X:a9}{b:Nat}{val out:al}{top:a8}(h:RS B K w X ow mo mf M b C s val app args out top gf)(a:w.heap[M]? =some (.cells (eL b s.pc val (aD gf) app args (.pointer top) out 0 0 0 ⟨#[]⟩) 119))(n:Int)(f:dV C s 7 n≠.bad):cl 123 #[Pt M,Jn n] w (aV B K X ow w M b C (dV C s 7 n)):=by
 obtain⟨l,k1,k2,k3,m,o,k6,t,u,v,k10,k11⟩:=bq a;have c:=h.st;simp only[dV] at f ⊢;cases hs:s.st with
 |nil=>rw[hs] at f;exact absurd rfl f
 |cons k r=>
  rw[hs] at c;obtain⟨g,q,gf0,got,rfl,i,_,_,_,_,j⟩:=c;have c0:=ae i 0;refine(Ig w M g n q k6 (ah a 6) c0).mono ?_;rintro e w' ⟨rfl,rfl⟩;refine⟨rfl,h.go a (aY w M 6 _) _ val app args q gf ((TH a).trans rfl) rfl rfl rfl λd=>⟨d.val,d.fr,d.app,?_⟩⟩;exact j.cG a (aY w M 6 _)
theorem Fy{w:aa}{X:a9}{b:Nat}{val out:al}{top:a8}(h:RS B K w X ow mo mf M b C s val app args out top gf)(i:w.heap[M]? =some (.cells (eL b s.pc val (aD gf) app args (.pointer top) out 0 0 0 ⟨#[]⟩) 119))(n:Int)(a:dV C s 4 n≠.bad):cl 120 #[Pt M,Jn n] w (aV B K X ow w M b C (dV C s 4 n)):=by
 obtain⟨z,k1,k2,k3,A,D,k6,E,F,G,k10,k11⟩:=bq i;have f:=h.st;simp only[dV] at a ⊢;cases hs:s.st with
 |nil=>rw[hs] at a;simp at a
 |cons m r=>
  have o:=f;rw[hs] at f;obtain⟨g,q,gf0,got,rfl,t,_,_,_,u,y⟩:=f;have c1:=ae t 1;rw[hs] at a;by_cases l:(m::r).length=201
  .rw[fN l] at a ⊢;have d:r.length=200:=by simpa using l
   refine(Fx w M g n k6 (by unfold Cl;rw[c1];simp[ph,d])).mono ?_;rintro e w' ⟨rfl,v⟩;exact rB h i 9 _ 0 (by omega) rfl w' v a
  .rw[fb l] at a ⊢;have k:¬((m::r).length=0\/201<(m::r).length):=λhb=>by rw[fN hb] at a;exact a rfl
   rw[fb k];have c:r.length<200:=by simp at l k;omega
   refine(Jp w M g gf n r.length c (ai i) k6 (ah i 6) k3 (by unfold Cl;rw[c1];rfl)).mono ?_;rintro e w' ⟨rfl,rfl⟩;refine⟨rfl,h.go i (((aY w M 6 _).alloc _).drew) _ val app args (eb w.heap.size) gf ((aw (TH i)).trans rfl) rfl rfl rfl λj=>⟨j.val,j.fr,j.app,?_⟩⟩;refine⟨w.heap.size,eb g,gf,none,rfl,?_,j.fr,⟨[],rfl,trivial⟩,kc _,by simp;omega,by have:=j.st;rw[hs] at this;exact this⟩;exact gA _ _ _ _
theorem Fs{w:aa}{X:a9}{b:Nat}{val out:al}{top:a8}(h:RS B K w X ow mo mf M b C s val app args out top gf)(a:w.heap[M]? =some (.cells (eL b s.pc val (aD gf) app args (.pointer top) out 0 0 0 ⟨#[]⟩) 119))(n:Int)(t:dV C s 6 n≠.bad):cl 122 #[Pt M,Jn n] w (aV B K X ow w M b C (dV C s 6 n)):=by
 obtain⟨J,k1,k2,k3,L,N,k6,O,P,Q,k10,k11⟩:=bq a;have d:=h.st;simp only[dV] at t ⊢;cases hs:s.st with
 |nil=>rw[hs] at t;exact absurd rfl t
 |cons D r=>
  rw[hs] at d;obtain⟨g,q,gf0,got,rfl,F,j,⟨xs,hi,z⟩,m,u,H⟩:=d;refine(Mw w M g n q (eb gf0) got r.length D.nx xs (ai a) k6 (ah a 6) F hi).mono ?_;rintro e w' ⟨w2,f,I,rfl,rfl,hb,G,l,o⟩;have y:aB (λk=>k=M) w w2:=TW _ hb;have c:w2.heap[M]? =some (Obj.cells (eL b s.pc val (aD gf) app args (.pointer (eb g)) out 0 0 0 ⟨#[]⟩) 119 (0,0)):=by rw[hb.block M (ai a)];exact a
  have v:=y.setCell (dq M 6) (Pt f) (λ_=>rfl);refine⟨rfl,h.go a v _ val app args (eb f) gf ((TH c).trans rfl) rfl rfl rfl λi=>⟨i.val,i.fr,i.app,?_⟩⟩;have A:∀T,T≠119->aC T w2 _:=λT E=>T8 c (aY w2 M 6 (Pt f)) E;exact⟨f,q,gf0,I,rfl,A _ (by decide) _ _ l,j,⟨xs,ld.ak (A _ (by decide)) _ _ o,eV.ak (T8 a v (by decide)) (TV _) _ _ z⟩,m,u,H.cG a v⟩
theorem Fe{w:aa}{X:a9}{b:Nat}{val out:al}{top:a8}(h:RS B K w X ow mo mf M b C s val app args out top gf)(c:w.heap[M]? =some (.cells (eL b s.pc val (aD gf) app args (.pointer top) out 0 0 0 ⟨#[]⟩) 119))(n:Int)(a:dV C s 5 n≠.bad):cl 121 #[Pt M,Jn n] w (aV B K X ow w M b C (dV C s 5 n)):=by
 obtain⟨Q,k1,k2,k3,R,S,k6,U,V,W,k10,k11⟩:=bq c;have i:=h.st;have j:=h.val;simp only[dV] at a ⊢;cases hs:s.st with
 |nil=>rw[hs] at a;exact absurd rfl a
 |cons o r=>
  rw[hs] at i a;cases hsv:s.val with
  |none=>rw[hsv] at a;exact absurd rfl a
  |some v=>
   rw[hsv] at j a;simp only[] at a ⊢;by_cases d:o.got.length<1000000
   .rw[fN d];have j:VX w mo v val:=j;obtain⟨t,x,rfl⟩:=j.form;obtain⟨g,q,gf0,got,rfl,L,y,⟨xs,hi,l⟩,A,E,O⟩:=i;have H:xs.length<=1000000:=by rw[<-l.length];exact A
    refine(L9 w M g n q (eb gf0) got r.length o.nx t x xs H (ai c) k6 (ah c 6) k2 L hi).mono ?_;rintro e w' ⟨w2,m,P,rfl,rfl,hb,N,z,D⟩;have G:aB (λk=>k=M) w w2:=TW _ hb;have f:w2.heap[M]? =some (Obj.cells (eL b s.pc (.iface t x) (aD gf) app args (.pointer (eb g)) out 0 0 0 ⟨#[]⟩) 119 (0,0)):=by rw[hb.block M (ai c)];exact c
    have F:=G.setCell (dq M 6) (Pt m) (λ_=>rfl);refine⟨rfl,h.go c F _ (.iface t x) app args (eb m) gf ((TH f).trans rfl) rfl rfl rfl λu=>⟨by have:=u.val;rw[hsv] at this;exact this,u.fr,u.app,?_⟩⟩;have I:∀T,T≠119->aC T w2 _:=λT J=>T8 f (aY w2 M 6 (Pt m)) J;refine⟨m,q,gf0,P,rfl,I _ (by decide) _ _ z,y,⟨_,ld.ak (I _ (by decide)) _ _ D,eV.ak (T8 c F (by decide)) (TV _) (v::o.got) (.iface t x::xs) ⟨j,l⟩⟩,by simp;omega,E,O.cG c F⟩
   .rw[fb d] at a;exact absurd rfl a
theorem Ez{w:aa}{X:a9}{b:Nat}{val out:al}{top:a8}(h:RS B K w X ow mo mf M b C s val app args out top gf)(a:w.heap[M]? =some (.cells (eL b s.pc val (aD gf) app args (.pointer top) out 0 0 0 ⟨#[]⟩) 119))(n:Int)(i:dV C s 13 n≠.bad):cl 129 #[Pt M,Jn n] w (aV B K X ow w M b C (dV C s 13 n)):=by
 obtain⟨t,k1,k2,k3,u,v,k6,y,z,A,k10,k11⟩:=bq a;have c:=h.st;simp only[dV] at i ⊢;cases hs:s.st with
 |nil=>rw[hs] at i;exact absurd rfl i
 |cons j r=>
  rw[hs] at c;obtain⟨g,q,gf0,got,rfl,l,f,_,_,_,o⟩:=c;have c2:=ae l 2;have c3:=ae l 3;refine(G9 w M g gf0 n j.nx s.pc _ k6 k1 k3 (ah a 1) (ah a 3) c3 c2).mono ?_;rintro e w' ⟨rfl,rfl⟩;have m:aB (λk=>k=M) w ((w.setCell (dq M 1) (Jn j.nx)).setCell (dq M 3) (Pt gf0)).drew:=((aY w M 1 _).setCell _ _ (λ_=>rfl)).drew;exact⟨rfl,h.go a m _ val app args (eb g) gf0 ((TH (TH a)).trans rfl) rfl rfl rfl λd=>⟨d.val,f,d.app,by have:=d.st;rw[hs] at this;exact this⟩⟩
theorem Bz{w:aa}{X:a9}{b:Nat}{val out:al}{top:a8}(h:RS B K w X ow mo mf M b C s val app args out top gf)(j:w.heap[M]? =some (.cells (eL b s.pc val (aD gf) app args (.pointer top) out 0 0 0 ⟨#[]⟩) 119))(n:Int)(m:0<=n)(l:dV C s 1 n≠.bad):cl 117 #[Pt M,Jn n] w (aV B K X ow w M b C (dV C s 1 n)):=by
 obtain⟨q,k1,k2,k3,r,u,k6,z,A,D,k10,k11⟩:=bq j;simp only[dV] at l ⊢;cases hc:C.cs[n.toNat]? with
 |none=>rw[hc] at l;exact absurd rfl l
 |some v=>
  obtain⟨c,u0,u1,u2,u3,x1,x3,a⟩:=h.code;have hlt:n.toNat<C.cs.length:=(ke.1 hc).1;obtain⟨y,o,d⟩:=eV.get n.toNat v a.v1 hc;have d:=VX.ak (TY _) h.mcd _ _ d;obtain⟨t,x,rfl⟩:=d.form;obtain⟨g,i,rfl,_,_,_,_,f⟩:=db a.r1.1 (by omega);have b1:w.cell? (dq b 1)=some (.slice (eb g) C.cs.length i):=by rw[ae a.hS];exact a.c1
  have:=vV w M b g C.cs.length i n.toNat t x _ q k2 (ah j 2) b1 hlt a.lc (f _ _ o);rw[Int.toNat_of_nonneg m] at this;refine this.mono ?_;rintro e w' ⟨rfl,rfl⟩;exact⟨rfl,h.go j (aY w M 2 _) _ (.iface t x) app args top gf ((TH j).trans rfl) rfl rfl rfl λk=>⟨d.cG j (aY w M 2 _),k.fr,k.app,k.st⟩⟩
def fw:aa->List Obj->aa
 |w,[]=>w
 |w,o::r=>fw (w.alloc o) r
theorem fB:∀(l:List Obj) (w:aa),Below w.heap.size w (fw w l)
 |[],w=>fL _ _
 |o::r,w=>by
  have h:=fB r (w.alloc o);exact((fL w.heap.size w).alloc (ew _) o).trans (h.mono (by simp))
theorem o7:∀(l:List Obj) (w:aa),(fw w l).heap.size=w.heap.size+l.length
 |[],w=>rfl
 |o::r,w=>by rw[fw,o7 r];simp;omega
theorem ip:∀(l:List Obj) (w:aa) (i:Nat) (o:Obj),l[i]? =some o->(fw w l).heap[w.heap.size+i]? =some o
 |[],w,i,o,h=>by simp at h
 |a::r,w,0,o,h=>by
  simp at h;subst h;have hb:=fB r (w.alloc a);rw[fw,rn,hb.block w.heap.size (by simp)];exact n6
 |a::r,w,i+1,o,h=>by
  have:=ip r (w.alloc a) i o (by simpa using h);rw[fw,show w.heap.size+(i+1)=(w.alloc a).heap.size+i by simp;omega];exact this
def DH(S M:Nat):List Obj:=[
 .cells #[aD M] 73,.cells #[.func (.func 160) #[aD M] #[]] 285,.cells #[.string ⟨#[43]⟩,.int .i64 2,.func (.func 211) #[] #[aD (S+0),aD (S+1)]] 220,
 .cells #[aD M] 73,.cells #[.func (.func 161) #[aD M] #[]] 285,.cells #[.string ⟨#[45]⟩,.int .i64 2,.func (.func 211) #[] #[aD (S+3),aD (S+4)]] 220,
 .cells #[aD M] 73,.cells #[.func (.func 162) #[aD M] #[]] 285,.cells #[.string ⟨#[42]⟩,.int .i64 2,.func (.func 211) #[] #[aD (S+6),aD (S+7)]] 220,
 .cells #[aD M] 73,.cells #[.func (.func 163) #[aD M] #[]] 285,.cells #[.string ⟨#[60]⟩,.int .i64 2,.func (.func 211) #[] #[aD (S+9),aD (S+10)]] 220,
 .cells #[aD M] 73,.cells #[.func (.func 164) #[aD M] #[]] 285,.cells #[.string ⟨#[61]⟩,.int .i64 2,.func (.func 211) #[] #[aD (S+12),aD (S+13)]] 220,
 .cells #[aD M] 73,.cells #[.func (.func 166) #[aD M] #[]] 287,.cells #[.string ⟨#[99,111,110,115]⟩,.int .i64 2,.func (.func 213) #[] #[aD (S+15),aD (S+16)]] 220,
 .cells #[aD M] 73,.cells #[.func (.func 168) #[aD M] #[]] 289,.cells #[.string ⟨#[99,97,114]⟩,.int .i64 1,.func (.func 214) #[] #[aD (S+18),aD (S+19)]] 220,
 .cells #[aD M] 73,.cells #[.func (.func 169) #[aD M] #[]] 289,.cells #[.string ⟨#[99,100,114]⟩,.int .i64 1,.func (.func 214) #[] #[aD (S+21),aD (S+22)]] 220,
 .cells #[aD M] 73,.cells #[.func (.func 171) #[aD M] #[]] 291,.cells #[.string ⟨#[110,117,108,108,63]⟩,.int .i64 1,.func (.func 215) #[] #[aD (S+24),aD (S+25)]] 220,
 .cells #[aD M] 73,.cells #[.func (.func 172) #[aD M] #[]] 291,.cells #[.string ⟨#[112,97,105,114,63]⟩,.int .i64 1,.func (.func 215) #[] #[aD (S+27),aD (S+28)]] 220,
 .cells #[aD M] 73,.cells #[.func (.func 173) #[aD M] #[]] 291,.cells #[.string ⟨#[110,111,116]⟩,.int .i64 1,.func (.func 215) #[] #[aD (S+30),aD (S+31)]] 220,
 .cells #[aD M] 73,.cells #[.func (.func 174) #[aD M] #[]] 287,.cells #[.string ⟨#[101,113,63]⟩,.int .i64 2,.func (.func 213) #[] #[aD (S+33),aD (S+34)]] 220,
 .cells #[.string ⟨#[100,105,115,112,108,97,121]⟩,.int .i64 1,.func (.func 175) #[aD M] #[]] 220,
 .cells #[.string ⟨#[99,97,108,108,47,99,99]⟩,.int .i64 1,.func (.func 176) #[aD M] #[]] 220,
 .cells #[aD (S+2),aD (S+5),aD (S+8),aD (S+11),aD (S+14),aD (S+17),aD (S+20),aD (S+23),aD (S+26),aD (S+29),aD (S+32),aD (S+35),aD (S+36),aD (S+37)] 216]
def A4(w:aa)(M:Nat)(e:bo)(w':aa):Prop:=e=.returned (.slice (eb (w.heap.size+38)) 14 14)/\w'=fw w (DH w.heap.size M)
theorem dm(w:aa)(M f:Nat)(T:bi):(Er w M f T).heap.size=w.heap.size+2:=by unfold Er;simp
theorem E1(w:aa)(M:Nat):cl 100 #[Pt M] w (A4 w M):=by
 have ha:∀(R:Fn) (first f:bc) (w:aa),(Instr.makeFunc R first f).run prog w=.ok (.func R first f) w:=λ_ _ _ _=>rfl;go_enter func100,ntmps100;go_wp2_with fail;refine(iA _ M 160).mono ?_;rintro e w0 ⟨rfl,g⟩;have U:=ag g;clear g;go_wp2_with fail;refine(iA _ M 161).mono ?_;rintro e w1 ⟨rfl,h⟩;have V:=ag h;clear h;go_wp2_with fail;refine(iA _ M 162).mono ?_;rintro e w2 ⟨rfl,i⟩;have W:=ag i;clear i;go_wp2_with fail;refine(iA _ M 163).mono ?_;rintro e w3 ⟨rfl,j⟩;have X:=ag j;clear j;go_wp2_with fail;refine(iA _ M 164).mono ?_;rintro e w4 ⟨rfl,k⟩;have Y:=ag k;clear k;go_wp2_with fail;refine(uN _ M 166).mono ?_;rintro e w5 ⟨rfl,l⟩;have Z:=ag l;clear l;go_wp2_with fail;refine(sd _ M 168).mono ?_;rintro e w6 ⟨rfl,m⟩;have H6:=ag m;clear m;go_wp2_with fail;refine(sd _ M 169).mono ?_;rintro e w7 ⟨rfl,o⟩;have H7:=ag o;clear o;go_wp2_with fail;refine(oC _ M 171).mono ?_;rintro e w8 ⟨rfl,q⟩;have H8:=ag q;clear q;go_wp2_with fail;refine(oC _ M 172).mono ?_;rintro e w9 ⟨rfl,r⟩;have H9:=ag r;clear r;go_wp2_with fail;refine(oC _ M 173).mono ?_;rintro e w10 ⟨rfl,a⟩;have t:=ag a;clear a;go_wp2_with fail;refine(uN _ M 174).mono ?_;rintro e w11 ⟨rfl,b⟩;have u:=ag b;clear b;go_wp2;have S:=U.out;have F:w0.heap.size=w.heap.size+2:=by rw[S,dm]
 have h1:=V.out;have G:w1.heap.size=w.heap.size+5:=by rw[h1,dm];simp[F]
 have h2:=W.out;simp only[F] at h2;have H:w2.heap.size=w.heap.size+8:=by rw[h2,dm];simp[G]
 have h3:=X.out;simp only[G] at h3;have I:w3.heap.size=w.heap.size+11:=by rw[h3,dm];simp[H]
 have v:=Y.out;simp only[H] at v;have J:w4.heap.size=w.heap.size+14:=by rw[v,dm];simp[I]
 have y:=Z.out;simp only[I] at y;have L:w5.heap.size=w.heap.size+17:=by rw[y,dm];simp[J]
 have z:=H6.out;simp only[J] at z;have N:w6.heap.size=w.heap.size+20:=by rw[z,dm];simp[L]
 have A:=H7.out;simp only[L] at A;have O:w7.heap.size=w.heap.size+23:=by rw[A,dm];simp[N]
 have D:=H8.out;simp only[N] at D;have P:w8.heap.size=w.heap.size+26:=by rw[D,dm];simp[O]
 have E:=H9.out;simp only[O] at E;have Q:w9.heap.size=w.heap.size+29:=by rw[E,dm];simp[P]
 have c:=t.out;simp only[P] at c;have s10:w10.heap.size=w.heap.size+32:=by rw[c,dm];simp[Q]
 have d:=u.out;simp only[Q] at d;have s11:w11.heap.size=w.heap.size+35:=by rw[d,dm];simp[s10]
 simp only[F,G,H,I,J,L,N,O,P,Q,s10,s11];go_ret;refine⟨rfl,?_⟩;rw[d,c,E,D,A,z,y,v,h3,h2,h1,S];rfl
end Go.Proofs.YtlobegpjenabaaaGreatDoor
