/- The machine over expressions, as plain functions. -/
import Derived.Test.YtlobegpjenabaaaGreatDoorL19
import Derived.Test.YtlobegpjenabaaaGreatDoorL33
import Derived.Test.YtlobegpjenabaaaGreatDoorL24
namespace Go.Proofs.YtlobegpjenabaaaGreatDoor
set_option linter.unusedSimpArgs false
set_option linter.unusedVariables false

/-- An expression with its values. -/
inductive X where
  | const (v : V)
  | var (s : List UInt8)
  | ite (a b c : X)
  | define (s : List UInt8) (a : X)
  | set (s : List UInt8) (a : X)
  | lambda (xs : List (List UInt8)) (a : X)
  | seq (es : List X)
  | apply (es : List X)
/-- What is pending, with its frame: a test; a variable to be defined, or set; the rest of a sequence; the rest of an application, and its values (the newest first). -/
inductive XK where
  | test (f : Nat) (b c : X)
  | bind (f : Nat) (s : List UInt8)
  | change (f : Nat) (s : List UInt8)
  | rest (f : Nat) (es : List X)
  | args (f : Nat) (es : List X) (got : List V)
/-- A frame. -/
structure XF where
  ns : List (List UInt8)
  vs : List V
  out : Option Nat
/-- A procedure. -/
inductive XP where
  | first (k : Nat)
  | clo (xs : List (List UInt8)) (a : X) (f : Nat)
  | kont (ch : List XK) (fs : List X)
/-- What a machine is at. -/
inductive XM where
  | next
  | ev (x : X)
  | back (v : V)
  | app (p : V) (a : List V)
structure XS where
  md : XM
  fr : Nat
  ch : List XK
  fs : List X
  last : Option V
  out : List (List UInt8)
  frs : List XF
  obs : List (Option XP)
inductive XR where
  | ok (x : XS)
  | err (e : Int) (d : Nat) (o : List (List UInt8))
  | done (t : List UInt8) (o : List (List UInt8))
  | bad
def idxX (l : List (List UInt8)) (s : List UInt8) : Option Nat := if l.contains s then some (l.idxOf s) else none
/-- The frame that has a variable, and where. -/
def findX (frs : List XF) : Nat → Nat → List UInt8 → Option (Nat × Nat)
  | 0, _, _ => none
  | k + 1, f, n => match frs[f]? with
    | none => none
    | some fr => match idxX fr.ns n with
      | some i => some (f, i)
      | none => match fr.out with
        | none => none
        | some g => findX frs k g n
def XF.put (fr : XF) (i : Nat) (v : V) : XF := { fr with vs := fr.vs.set i v }
def XF.define (fr : XF) (n : List UInt8) (v : V) : XF := match idxX fr.ns n with
  | some i => fr.put i v
  | none => { fr with ns := fr.ns ++ [n], vs := fr.vs ++ [v] }
def backX (x : XS) (v : V) : XR := .ok { x with md := .back v }
def errX (x : XS) (e : Int) : XR := .err e x.ch.length x.out
/-- Something more is pending; then an expression. -/
def pendX (x : XS) (k : XK) (e : X) : XR := if x.ch.length = 200 then errX x 9 else .ok { x with md := .ev e, ch := k :: x.ch }
def evX (x : XS) : X → XR
  | .const v => backX x v
  | .var s => match findX x.frs (x.fr + 1) x.fr s with
    | some (f, i) => match x.frs[f]? with
      | some fr => match fr.vs[i]? with
        | some v => backX x v
        | none => .bad
      | none => .bad
    | none => errX x 5
  | .ite a b c => pendX x (.test x.fr b c) a
  | .define s a => pendX x (.bind x.fr s) a
  | .set s a => pendX x (.change x.fr s) a
  | .lambda xs a => .ok { x with md := .back (.proc (2 * x.obs.length)), obs := x.obs ++ [some (.clo xs a x.fr)] }
  | .seq (e :: r) => pendX x (.rest x.fr r) e
  | .apply (e :: r) => pendX x (.args x.fr r []) e
  | .seq [] => .bad
  | .apply [] => .bad
/-- A value goes back to what was pending; x: without it. -/
def giveX (x : XS) (v : V) : XK → XR
  | .test f b c => .ok { x with md := .ev (if sameV v (.bool false) then c else b), fr := f }
  | .bind f s => match x.frs[f]? with
    | some fr => .ok { x with md := .back .nothing, frs := x.frs.set f (fr.define s v) }
    | none => .bad
  | .change f s => match findX x.frs (f + 1) f s with
    | some (g, i) => match x.frs[g]? with
      | some fr => .ok { x with md := .back .nothing, frs := x.frs.set g (fr.put i v) }
      | none => .bad
    | none => errX x 5
  | .rest f [e] => .ok { x with md := .ev e, fr := f }
  | .rest f (e :: e2 :: es) => .ok { x with md := .ev e, fr := f, ch := .rest f (e2 :: es) :: x.ch }
  | .rest f [] => .bad
  | .args f [] got => match (v :: got).reverse with
    | p :: a => .ok { x with md := .app p a }
    | [] => .bad
  | .args f (e :: es) got => .ok { x with md := .ev e, fr := f, ch := .args f es (v :: got) :: x.ch }
def intsX (x : XS) (f : Int → Int → V) : V → V → XR
  | .int a, .int b => backX x (f a b)
  | _, _ => errX x 8
/-- One of the first procedures, of as many values as it wants. -/
def firstX (x : XS) : Nat → List V → XR
  | 0, [a, b] => intsX x (fun x y => .int (w64 (x + y))) a b
  | 1, [a, b] => intsX x (fun x y => .int (w64 (x - y))) a b
  | 2, [a, b] => intsX x (fun x y => .int (w64 (x * y))) a b
  | 3, [a, b] => intsX x (fun x y => .bool (decide (x < y))) a b
  | 4, [a, b] => intsX x (fun x y => .bool (x == y)) a b
  | 5, [a, b] => backX { x with obs := x.obs ++ [none] } (.pair (2 * x.obs.length) a b)
  | 6, [a] => match a with
    | .pair _ p _ => backX x p
    | _ => errX x 8
  | 7, [a] => match a with
    | .pair _ _ q => backX x q
    | _ => errX x 8
  | 8, [a] => backX x (.bool (sameV a .empty))
  | 9, [a] => match a with
    | .pair _ _ _ => backX x (.bool true)
    | _ => backX x (.bool false)
  | 10, [a] => backX x (.bool (sameV a (.bool false)))
  | 11, [a, b] => backX x (.bool (sameV a b))
  | 12, [a] => if x.out.length = 40 then errX x 10 else backX { x with out := x.out ++ [(toldS a).take 100] } .nothing
  | 13, [a] => .ok { x with md := .app a [.proc (2 * x.obs.length)], obs := x.obs ++ [some (.kont x.ch x.fs)] }
  | _, _ => .bad
def procX (x : XS) (id : Nat) : Option XP := if id % 2 = 0 then (match x.obs[id / 2]? with
  | some (some k) => some k
  | _ => none) else none
def doX (x : XS) (a : List V) : XP → XR
  | .first k => if a.length = needS k then firstX x k a else errX x 7
  | .clo xs b f => if a.length = xs.length then .ok { x with md := .ev b, frs := x.frs ++ [⟨xs, a, some f⟩], fr := x.frs.length } else errX x 7
  | .kont ch fs => match a with
    | [v] => .ok { x with md := .back v, ch := ch, fs := fs }
    | _ => errX x 7
def applyX (x : XS) (p : V) (a : List V) : XR := match p with
  | .proc id => match procX x id with
    | some k => doX x a k
    | none => .bad
  | _ => errX x 6
def stepX (x : XS) : XR := match x.md with
  | .next => match x.fs with
    | [] => .done (match x.last with
      | some v => (toldS v).take 100
      | none => []) x.out
    | e :: r => .ok { x with md := .ev e, fr := 0, ch := [], fs := r }
  | .ev e => evX x e
  | .back v => match x.ch with
    | [] => .ok { x with md := .next, last := some v }
    | k :: r => giveX { x with ch := r } v k
  | .app p a => applyX x p a
/-- Is it ahead of an application? -/
def XM.isApp : XM → Bool
  | .app _ _ => true
  | _ => false
def XM.cost (m : XM) : Nat := if m.isApp then 1 else 0
/-- What a run comes to. -/
inductive XRR where
  | run (x : XS)
  | err (e : Int) (d : Nat) (o : List (List UInt8))
  | done (t : List UInt8) (o : List (List UInt8))
/-- A run: at most n applications, of which some were made; none: it came to no end. -/
def goX : Nat → XS → Nat → Nat → Option (Nat × XRR)
  | 0, _, _, _ => none
  | k + 1, x, n, made =>
    if x.md.isApp = true ∧ made = n then some (made, .run x)
    else match stepX x with
      | .ok x' => goX k x' n (made + x.md.cost)
      | .err e d o => some (made + x.md.cost, .err e d o)
      | .done t o => some (made + x.md.cost, .done t o)
      | .bad => none
/-- A machine of these forms. -/
def startX (fs : List X) : XS :=
  { md := .next, fr := 0, ch := [], fs := fs, last := none, out := [], frs := [⟨firstN, (List.range 14).map fun k => .proc (2 * k), none⟩], obs := (List.range 14).map fun k => some (.first k) }

mutual
/-- How much an expression weighs. -/
def wtX : X → Nat
  | .const _ => 2
  | .var _ => 2
  | .ite a b c => wtX a + wtX b + wtX c + 2
  | .define _ a => wtX a + 2
  | .set _ a => wtX a + 2
  | .lambda _ _ => 2
  | .seq es => wtXs es + 2
  | .apply es => wtXs es + 2
def wtXs : List X → Nat
  | [] => 0
  | e :: r => wtX e + 1 + wtXs r
end
def wtK : XK → Nat
  | .test _ b c => wtX b + wtX c + 1
  | .bind _ _ => 1
  | .change _ _ => 1
  | .rest _ es => wtXs es + 1
  | .args _ es _ => wtXs es + 1
def wtKs : List XK → Nat
  | [] => 0
  | k :: r => wtK k + wtKs r
/-- How far it is to the next application, at most. -/
def muX (x : XS) : Nat := match x.md with
  | .next => wtXs x.fs
  | .ev e => wtX e + wtKs x.ch + wtXs x.fs
  | .back _ => 1 + wtKs x.ch + wtXs x.fs
  | .app _ _ => 0
theorem mu_pend {x x' : XS} {k : XK} {e a : X} (hm : x.md = .ev a) (h : pendX x k e = .ok x') (hw : wtX e + wtK k < wtX a) : muX x' < muX x := by
  unfold pendX errX at h
  split at h
  · cases h
  · cases h
    simp only [muX, hm, wtKs]
    omega
theorem mu_ev {x x' : XS} (e : X) (hm : x.md = .ev e) (h : evX x e = .ok x') : muX x' < muX x := by
  cases e with
  | const v => cases h; simp only [muX, hm, wtX]; omega
  | var s =>
    simp only [evX] at h
    split at h
    · split at h
      · split at h
        · cases h; simp only [muX, hm, wtX]; omega
        · cases h
      · cases h
    · cases h
  | ite a b c => exact mu_pend hm h (by simp only [wtX, wtK]; omega)
  | define s a => exact mu_pend hm h (by simp only [wtX, wtK]; omega)
  | set s a => exact mu_pend hm h (by simp only [wtX, wtK]; omega)
  | lambda xs a => cases h; simp only [muX, hm, wtX]; omega
  | seq es =>
    cases es with
    | nil => cases h
    | cons e r => exact mu_pend hm h (by simp only [wtX, wtXs, wtK]; omega)
  | apply es =>
    cases es with
    | nil => cases h
    | cons e r => exact mu_pend hm h (by simp only [wtX, wtXs, wtK]; omega)
theorem mu_give {x x' : XS} {v : V} (k : XK) (h : giveX x v k = .ok x') : muX x' < 1 + wtK k + wtKs x.ch + wtXs x.fs := by
  cases k with
  | test f b c =>
    cases h
    simp only [muX, wtK]
    split <;> omega
  | bind f s =>
    simp only [giveX] at h
    split at h
    · cases h; simp only [muX, wtK]; omega
    · cases h
  | change f s =>
    simp only [giveX] at h
    split at h
    · split at h
      · cases h; simp only [muX, wtK]; omega
      · cases h
    · cases h
  | rest f es =>
    match es, h with
    | [], h => cases h
    | [e], h => cases h; simp only [muX, wtK, wtXs]; omega
    | e :: e2 :: es, h => cases h; simp only [muX, wtK, wtXs, wtKs]; omega
  | args f es got =>
    match es, h with
    | [], h =>
      simp only [giveX] at h
      split at h
      · cases h; simp only [muX, wtK]; omega
      · cases h
    | e :: es, h => cases h; simp only [muX, wtK, wtXs, wtKs]; omega
/-- Between applications each step brings it nearer. -/
theorem mu_step {x x' : XS} (hm : x.md.isApp = false) (h : stepX x = .ok x') : muX x' < muX x := by
  unfold stepX at h
  cases hd : x.md with
  | next =>
    rw [hd] at h
    simp only at h
    cases hf : x.fs with
    | nil => rw [hf] at h; cases h
    | cons e r =>
      rw [hf] at h
      cases h
      simp only [muX, hd, hf, wtXs, wtKs]; omega
  | ev e => rw [hd] at h; exact mu_ev e hd h
  | back v =>
    rw [hd] at h
    simp only at h
    cases hc : x.ch with
    | nil => rw [hc] at h; cases h; simp only [muX, hd, hc, wtKs]; omega
    | cons k r =>
      rw [hc] at h
      have := mu_give k h
      simp only [muX, hd, hc, wtKs]
      simp only at this
      unfold muX at this
      omega
  | app p a => rw [hd] at hm; cases hm
end Go.Proofs.YtlobegpjenabaaaGreatDoor

/- Where the code of an expression with its values lies. -/
namespace Go.Proofs.YtlobegpjenabaaaGreatDoor
set_option linter.unusedSimpArgs false
set_option linter.unusedVariables false

/-- A value without procedures. -/
def NP : V → Prop
  | .proc _ => False
  | .pair _ a b => NP a ∧ NP b
  | _ => True
theorem chv_np {R : D → V → Prop} (hR : ∀ d v, R d v → NP v) : ∀ (l : List D) (v : V), ChV R l v → NP v
  | [], v, h => by have h : v = .empty := h; subst h; exact trivial
  | d :: r, v, ⟨id, a, b, h1, h2, h3, h4⟩ => by subst h1; exact ⟨hR d a h3, chv_np hR r b h4⟩
theorem dv_np : ∀ (N : Nat) (d : D) (v : V), DV N d v → NP v
  | 0, d, v, h => h.elim
  | N + 1, d, v, h => by
    unfold DV at h
    split at h
    · rename_i h0; cases h0
    · rename_i h0; cases h0; exact chv_np (dv_np N) _ _ h
    · subst h; exact trivial
    · subst h; exact trivial
    · subst h; exact trivial
    · exact h.elim
mutual
/-- At p there is the code of an expression; behind it J. -/
def AtX (z : BS) (vs : List V) : X → Nat → Option Nat → Prop
  | .const v, p, J => (∃ n : Nat, z.is[p]? = some (1, (n : Int)) ∧ vs[n]? = some v ∧ NP v) ∧ Lnd z (p + 1) J
  | .var s, p, J => (∃ n : Nat, z.is[p]? = some (2, (n : Int)) ∧ z.ns[n]? = some s) ∧ Lnd z (p + 1) J
  | .lambda xs a, p, J => (∃ (l : Nat) (nm : List UInt8) (ns : List Nat) (e : Nat), z.is[p]? = some (3, (l : Int)) ∧ z.ls[l]? = some (nm, ns, e) ∧ NumR z ns xs ∧ xs.Nodup ∧ AtX z vs a e none) ∧ Lnd z (p + 1) J
  | .define s a, p, J => ∃ r n : Nat, p < r ∧ z.is[p]? = some (4, (r : Int)) ∧ AtX z vs a (p + 1) (some r) ∧ z.is[r]? = some (9, (n : Int)) ∧ z.ns[n]? = some s ∧ Lnd z (r + 1) J
  | .set s a, p, J => ∃ r n : Nat, p < r ∧ z.is[p]? = some (4, (r : Int)) ∧ AtX z vs a (p + 1) (some r) ∧ z.is[r]? = some (10, (n : Int)) ∧ z.ns[n]? = some s ∧ Lnd z (r + 1) J
  | .ite a b c, p, _ => ∃ r t : Nat, p < r ∧ z.is[p]? = some (4, (r : Int)) ∧ AtX z vs a (p + 1) (some r) ∧ z.is[r]? = some (8, (t : Int)) ∧ AtX z vs b (r + 1) none ∧ AtX z vs c t none
  | .seq es, p, J => 2 ≤ es.length ∧ SeqX z vs es 4 p J
  | .apply es, p, _ => 1 ≤ es.length ∧ ApX z vs es 4 p
def SeqX (z : BS) (vs : List V) : List X → Int → Nat → Option Nat → Prop
  | [], _, _, _ => False
  | [e], _, p, J => z.is[p]? = some (7, 0) ∧ AtX z vs e (p + 1) J
  | e :: r, op, p, J => ∃ t : Nat, p < t ∧ z.is[p]? = some (op, (t : Int)) ∧ AtX z vs e (p + 1) (some t) ∧ SeqX z vs r 6 t J
def ApX (z : BS) (vs : List V) : List X → Int → Nat → Prop
  | [], _, p => z.is[p]? = some (11, 0) ∧ z.is[p + 1]? = some (12, 0)
  | e :: r, op, p => ∃ t : Nat, p < t ∧ z.is[p]? = some (op, (t : Int)) ∧ AtX z vs e (p + 1) (some t) ∧ ApX z vs r 5 t
end
def FormsX (z : BS) (vs : List V) : List X → Nat → Prop
  | [], p => z.is[p]? = some (14, 0)
  | e :: r, p => ∃ t : Nat, p < t ∧ z.is[p]? = some (0, (t : Int)) ∧ AtX z vs e (p + 1) none ∧ FormsX z vs r t
mutual
/-- An expression is another one with its values; R: of data. -/
def ErX (R : D → V → Prop) : E → X → Prop
  | .const d, .const v => R d v
  | .nothing, .const v => v = .nothing
  | .var s, .var t => s = t
  | .ite a b c, .ite x y u => ErX R a x ∧ ErX R b y ∧ ErX R c u
  | .define s a, .define t x => s = t ∧ ErX R a x
  | .set s a, .set t x => s = t ∧ ErX R a x
  | .lambda _ xs a, .lambda ys x => xs = ys ∧ ErX R a x
  | .seq es, .seq xs => ErXs R es xs
  | .apply es, .apply xs => ErXs R es xs
  | _, _ => False
def ErXs (R : D → V → Prop) : List E → List X → Prop
  | [], [] => True
  | e :: r, x :: xs => ErX R e x ∧ ErXs R r xs
  | _, _ => False
end
theorem ErXs.length {R : D → V → Prop} : ∀ {es : List E} {xs : List X}, ErXs R es xs → es.length = xs.length
  | [], [], _ => rfl
  | [], _ :: _, h => by simp [ErXs] at h
  | _ :: _, [], h => by simp [ErXs] at h
  | e :: r, x :: xs, h => by
    have h : ErX R e x ∧ ErXs R r xs := by simpa only [ErXs] using h
    simp [ErXs.length h.2]
theorem dvs_get {N : Nat} : ∀ (cs : List (Option D)) (vs : List V) (n : Nat) (c : Option D), DVs N cs vs → cs[n]? = some c → ∃ v, vs[n]? = some v ∧ (match c with | none => v = .nothing | some d => DV N d v)
  | [], vs, n, c, _, h => by simp at h
  | none :: _, [], _, _, h, _ => h.elim
  | some _ :: _, [], _, _, h, _ => h.elim
  | none :: r, v :: vs, 0, c, h, e => by simp at e; subst e; exact ⟨v, rfl, h.1⟩
  | some d :: r, v :: vs, 0, c, h, e => by simp at e; subst e; exact ⟨v, rfl, h.1⟩
  | none :: r, v :: vs, n + 1, c, h, e => dvs_get r vs n c h.2 (by simpa using e)
  | some d :: r, v :: vs, n + 1, c, h, e => dvs_get r vs n c h.2 (by simpa using e)
mutual
theorem at_x {z : BS} {vs : List V} {N : Nat} (hd : DVs N z.cs vs) (hb : BodA z) : ∀ (e : E) (p : Nat) (J : Option Nat), WfE e → At z e p J → ∃ x, ErX (DV N) e x ∧ AtX z vs x p J
  | .const d, p, J, _, ⟨⟨n, h1, h2⟩, h3⟩ => by
    obtain ⟨v, k1, k2⟩ := dvs_get _ _ n _ hd h2
    exact ⟨.const v, by simpa only [ErX] using k2, by simp only [AtX]; exact ⟨⟨n, h1, k1, dv_np N d v k2⟩, h3⟩⟩
  | .nothing, p, J, _, ⟨⟨n, h1, h2⟩, h3⟩ => by
    obtain ⟨v, k1, k2⟩ := dvs_get _ _ n _ hd h2
    have k2 : v = .nothing := k2
    subst k2
    exact ⟨.const .nothing, by simp only [ErX], by simp only [AtX]; exact ⟨⟨n, h1, k1, trivial⟩, h3⟩⟩
  | .var s, p, J, _, ⟨⟨n, h1, h2⟩, h3⟩ => ⟨.var s, by simp only [ErX], by simp only [AtX]; exact ⟨⟨n, h1, h2⟩, h3⟩⟩
  | .lambda nm xs a, p, J, hw, ⟨⟨l, ns, e, h1, h2, h3, h4⟩, h5⟩ => by
    obtain ⟨x, k1, k2⟩ := at_x hd hb a e none hw.2 (hb l nm ns e a h2 h4)
    exact ⟨.lambda xs x, by simp only [ErX]; exact ⟨trivial, k1⟩, by simp only [AtX]; exact ⟨⟨l, nm, ns, e, h1, h2, h3, hw.1, k2⟩, h5⟩⟩
  | .define s a, p, J, hw, ⟨r, n, h0, h1, h2, h3, h4, h5⟩ => by
    obtain ⟨x, k1, k2⟩ := at_x hd hb a (p + 1) (some r) hw h2
    exact ⟨.define s x, by simp only [ErX]; exact ⟨trivial, k1⟩, by simp only [AtX]; exact ⟨r, n, h0, h1, k2, h3, h4, h5⟩⟩
  | .set s a, p, J, hw, ⟨r, n, h0, h1, h2, h3, h4, h5⟩ => by
    obtain ⟨x, k1, k2⟩ := at_x hd hb a (p + 1) (some r) hw h2
    exact ⟨.set s x, by simp only [ErX]; exact ⟨trivial, k1⟩, by simp only [AtX]; exact ⟨r, n, h0, h1, k2, h3, h4, h5⟩⟩
  | .ite a b c, p, J, hw, ⟨r, t, h0, h1, h2, h3, h4, h5⟩ => by
    obtain ⟨x, k1, k2⟩ := at_x hd hb a (p + 1) (some r) hw.1 h2
    obtain ⟨y, k3, k4⟩ := at_x hd hb b (r + 1) none hw.2.1 h4
    obtain ⟨u, k5, k6⟩ := at_x hd hb c t none hw.2.2 h5
    exact ⟨.ite x y u, by simp only [ErX]; exact ⟨k1, k3, k5⟩, by simp only [AtX]; exact ⟨r, t, h0, h1, k2, h3, k4, k6⟩⟩
  | .seq es, p, J, hw, h => by
    obtain ⟨xs, k1, k2⟩ := seq_x hd hb es 4 p J hw.2 h
    exact ⟨.seq xs, by simp only [ErX]; exact k1, by simp only [AtX]; exact ⟨by rw [← k1.length]; exact hw.1, k2⟩⟩
  | .apply es, p, J, hw, h => by
    obtain ⟨xs, k1, k2⟩ := app_x hd hb es 4 p hw.2 h
    exact ⟨.apply xs, by simp only [ErX]; exact k1, by simp only [AtX]; exact ⟨by rw [← k1.length]; exact hw.1, k2⟩⟩
theorem seq_x {z : BS} {vs : List V} {N : Nat} (hd : DVs N z.cs vs) (hb : BodA z) : ∀ (es : List E) (op : Int) (p : Nat) (J : Option Nat), WfEs es → SeqA z es op p J → ∃ xs, ErXs (DV N) es xs ∧ SeqX z vs xs op p J
  | [], op, p, J, _, h => h.elim
  | [e], op, p, J, hw, ⟨h1, h2⟩ => by
    obtain ⟨x, k1, k2⟩ := at_x hd hb e (p + 1) J hw.1 h2
    exact ⟨[x], by simp only [ErXs]; exact ⟨k1, trivial⟩, by simp only [SeqX]; exact ⟨h1, k2⟩⟩
  | e :: e2 :: r, op, p, J, hw, ⟨t, h0, h1, h2, h3⟩ => by
    obtain ⟨x, k1, k2⟩ := at_x hd hb e (p + 1) (some t) hw.1 h2
    obtain ⟨xs, k3, k4⟩ := seq_x hd hb (e2 :: r) 6 t J hw.2 h3
    cases xs with
    | nil => simp [ErXs] at k3
    | cons y ys => exact ⟨x :: y :: ys, by rw [ErXs]; exact ⟨k1, k3⟩, by rw [SeqX]; exact ⟨t, h0, h1, k2, k4⟩; simp⟩
theorem app_x {z : BS} {vs : List V} {N : Nat} (hd : DVs N z.cs vs) (hb : BodA z) : ∀ (es : List E) (op : Int) (p : Nat), WfEs es → AppA z es op p → ∃ xs, ErXs (DV N) es xs ∧ ApX z vs xs op p
  | [], op, p, _, h => ⟨[], by simp only [ErXs], by simp only [ApX]; exact h⟩
  | e :: r, op, p, hw, ⟨t, h0, h1, h2, h3⟩ => by
    obtain ⟨x, k1, k2⟩ := at_x hd hb e (p + 1) (some t) hw.1 h2
    obtain ⟨xs, k3, k4⟩ := app_x hd hb r 5 t hw.2 h3
    exact ⟨x :: xs, by simp only [ErXs]; exact ⟨k1, k3⟩, by simp only [ApX]; exact ⟨t, h0, h1, k2, k4⟩⟩
end
theorem forms_x {z : BS} {vs : List V} {N : Nat} (hd : DVs N z.cs vs) (hb : BodA z) : ∀ (es : List E) (p : Nat), WfEs es → FormsA z es p → ∃ xs, ErXs (DV N) es xs ∧ FormsX z vs xs p
  | [], p, _, h => ⟨[], by simp only [ErXs], h⟩
  | e :: r, p, hw, ⟨t, h0, h1, h2, h3⟩ => by
    obtain ⟨x, k1, k2⟩ := at_x hd hb e (p + 1) none hw.1 h2
    obtain ⟨xs, k3, k4⟩ := forms_x hd hb r t hw.2 h3
    exact ⟨x :: xs, by simp only [ErXs]; exact ⟨k1, k3⟩, t, h0, h1, k2, k4⟩
end Go.Proofs.YtlobegpjenabaaaGreatDoor

/- Frames by numbers, and by names. -/
namespace Go.Proofs.YtlobegpjenabaaaGreatDoor
set_option linter.unusedSimpArgs false
set_option linter.unusedVariables false

theorem idxI_cons (a : Int) (l : List Int) (n : Int) : idxI (a :: l) n = if a = n then some 0 else (idxI l n).map (· + 1) := by
  unfold idxI
  by_cases h : a = n
  · subst h; simp
  · have h' : ¬ n = a := fun e => h e.symm
    simp only [List.contains_cons, h, if_false]
    rw [List.idxOf_cons]
    have : (n == a) = false := by simpa using h'
    have h2 : (a == n) = false := by simpa using h
    simp only [this, Bool.false_or, h2, cond_false]
    split <;> simp
theorem idxX_cons (a : List UInt8) (l : List (List UInt8)) (n : List UInt8) : idxX (a :: l) n = if a = n then some 0 else (idxX l n).map (· + 1) := by
  unfold idxX
  by_cases h : a = n
  · subst h; simp
  · have h' : ¬ n = a := fun e => h e.symm
    simp only [List.contains_cons, h, if_false]
    rw [List.idxOf_cons]
    have : (n == a) = false := by simpa using h'
    have h2 : (a == n) = false := by simpa using h
    simp only [this, Bool.false_or, h2, cond_false]
    split <;> simp
theorem idxI_at : ∀ (l : List Int) (n : Int) (j : Nat), idxI l n = some j → l[j]? = some n
  | [], n, j, h => by cases h
  | a :: l, n, j, h => by
    rw [idxI_cons] at h
    split at h
    · rename_i e; cases h; simp [e]
    · cases hh : idxI l n with
      | none => rw [hh] at h; cases h
      | some k => rw [hh] at h; cases h; simpa using idxI_at l n k hh
theorem idxX_at : ∀ (l : List (List UInt8)) (n : List UInt8) (j : Nat), idxX l n = some j → l[j]? = some n
  | [], n, j, h => by cases h
  | a :: l, n, j, h => by
    rw [idxX_cons] at h
    split at h
    · rename_i e; cases h; simp [e]
    · cases hh : idxX l n with
      | none => rw [hh] at h; cases h
      | some k => rw [hh] at h; cases h; simpa using idxX_at l n k hh
theorem idxI_snoc : ∀ (l : List Int) (m n : Int), idxI (l ++ [m]) n = match idxI l n with | some j => some j | none => if m = n then some l.length else none
  | [], m, n => by
    show idxI [m] n = _
    rw [idxI_cons]
    split <;> rfl
  | a :: l, m, n => by
    rw [List.cons_append, idxI_cons, idxI_cons, idxI_snoc l m n]
    by_cases h : a = n
    · simp [h]
    · simp only [h, if_false]
      cases idxI l n with
      | some j => rfl
      | none => simp only [Option.map_none]; split <;> simp
theorem idxX_snoc : ∀ (l : List (List UInt8)) (m n : List UInt8), idxX (l ++ [m]) n = match idxX l n with | some j => some j | none => if m = n then some l.length else none
  | [], m, n => by
    show idxX [m] n = _
    rw [idxX_cons]
    split <;> rfl
  | a :: l, m, n => by
    rw [List.cons_append, idxX_cons, idxX_cons, idxX_snoc l m n]
    by_cases h : a = n
    · simp [h]
    · simp only [h, if_false]
      cases idxX l n with
      | some j => rfl
      | none => simp only [Option.map_none]; split <;> simp
/-- A variable's value in a frame, by number; by name. -/
def lookI (f : Fr) (i : Nat) : Option V := (idxI f.ns i).bind fun k => f.vs[k]?
def lookN (f : XF) (s : List UInt8) : Option V := (idxX f.ns s).bind fun k => f.vs[k]?

/-- A value whose procedures are there. -/
def VOk (O : List (Option XP)) : V → Prop
  | .proc id => id % 2 = 0 ∧ ∃ p, O[id / 2]? = some (some p)
  | .pair _ a b => VOk O a ∧ VOk O b
  | _ => True
theorem VOk.snoc {O : List (Option XP)} (x : Option XP) : ∀ {v : V}, VOk O v → VOk (O ++ [x]) v
  | .int _, h => h
  | .bool _, h => h
  | .sym _, h => h
  | .empty, h => h
  | .nothing, h => h
  | .pair _ _ _, h => ⟨VOk.snoc x h.1, VOk.snoc x h.2⟩
  | .proc id, ⟨h1, p, h2⟩ => ⟨h1, p, get_snoc h2⟩
theorem NP.ok {O : List (Option XP)} : ∀ {v : V}, NP v → VOk O v
  | .int _, _ => trivial
  | .bool _, _ => trivial
  | .sym _, _ => trivial
  | .empty, _ => trivial
  | .nothing, _ => trivial
  | .pair _ _ _, h => ⟨NP.ok h.1, NP.ok h.2⟩
  | .proc id, h => h.elim
/-- A frame by numbers, and by names. -/
structure FrX (z : BS) (O : List (Option XP)) (f : Fr) (g : XF) : Prop where
  out : f.out = g.out
  l1 : f.ns.length = f.vs.length
  l2 : g.ns.length = g.vs.length
  rng : ∀ n ∈ f.ns, 0 ≤ n ∧ n < (z.ns.length : Int)
  nd : f.ns.Nodup
  lk : ∀ (i : Nat) (s : List UInt8), z.ns[i]? = some s → lookI f i = lookN g s
  ok : ∀ v ∈ g.vs, VOk O v
theorem FrX.snoc {z : BS} {O : List (Option XP)} {f : Fr} {g : XF} (x : Option XP) (h : FrX z O f g) : FrX z (O ++ [x]) f g := ⟨h.out, h.l1, h.l2, h.rng, h.nd, h.lk, fun v hv => (h.ok v hv).snoc x⟩
theorem nd_at {α : Type} [DecidableEq α] {l : List α} (h : l.Nodup) {i j : Nat} {a : α} (hi : l[i]? = some a) (hj : l[j]? = some a) : i = j := by
  have h1 : i < l.length := by
    rcases Nat.lt_or_ge i l.length with h' | h'
    · exact h'
    · rw [List.getElem?_eq_none h'] at hi; cases hi
  exact (List.getElem?_inj h1 h).1 (hi.trans hj.symm)
theorem get_lt {α : Type} {l : List α} {i : Nat} {a : α} (h : l[i]? = some a) : i < l.length := by
  rcases Nat.lt_or_ge i l.length with h' | h'
  · exact h'
  · rw [List.getElem?_eq_none h'] at h; cases h
/-- Ints of a row, none twice, are not more than the row's bound. -/
theorem nd_len : ∀ (k : Nat) (l : List Int), l.Nodup → (∀ n ∈ l, 0 ≤ n ∧ n < (k : Int)) → l.length ≤ k
  | 0, l, _, h => by
    cases l with
    | nil => exact Nat.le_refl _
    | cons a r => have := h a (by simp); omega
  | k + 1, l, hn, h => by
    have h1 := nd_len k (l.filter (fun n => decide (n ≠ (k : Int)))) (hn.filter _) (fun n hm => by
      rw [List.mem_filter] at hm
      have := h n hm.1
      have h2 : n ≠ (k : Int) := by simpa using hm.2
      omega)
    have h2 : l.length ≤ (l.filter (fun n => decide (n ≠ (k : Int)))).length + 1 := by
      clear h h1
      induction l with
      | nil => simp
      | cons a r ih =>
        rw [List.nodup_cons] at hn
        by_cases ha : a = (k : Int)
        · have hr : r.filter (fun n => decide (n ≠ (k : Int))) = r := by
            rw [List.filter_eq_self]
            intro b hb
            have : b ≠ a := fun e => hn.1 (e ▸ hb)
            rw [ha] at this
            simpa using this
          rw [List.filter_cons, hr]
          have : decide (a ≠ (k : Int)) = false := by simp [ha]
          rw [this]; simp
        · rw [List.filter_cons]
          have : decide (a ≠ (k : Int)) = true := by simp [ha]
          rw [this]
          have := ih hn.2
          rw [if_pos rfl, List.length_cons, List.length_cons]; omega
    omega
theorem FrX.len {z : BS} {O : List (Option XP)} {f : Fr} {g : XF} (h : FrX z O f g) : f.ns.length ≤ z.ns.length := nd_len _ _ h.nd h.rng
/-- A variable is in both, or in none. -/
theorem FrX.idx {z : BS} {O : List (Option XP)} {f : Fr} {g : XF} (h : FrX z O f g) {i : Nat} {s : List UInt8} (hi : z.ns[i]? = some s) : (idxI f.ns i = none ∧ idxX g.ns s = none) ∨ ∃ j k v, idxI f.ns i = some j ∧ idxX g.ns s = some k ∧ f.vs[j]? = some v ∧ g.vs[k]? = some v := by
  have hl := h.lk i s hi
  unfold lookI lookN at hl
  cases h1 : idxI f.ns i with
  | none =>
    rw [h1] at hl
    cases h2 : idxX g.ns s with
    | none => exact .inl ⟨rfl, rfl⟩
    | some k =>
      have := get_lt (idxX_at _ _ _ h2)
      rw [h2, Option.bind_none, Option.bind_some, List.getElem?_eq_getElem (by rw [← h.l2]; exact this)] at hl
      cases hl
  | some j =>
    have hj := get_lt (idxI_at _ _ _ h1)
    rw [h1, Option.bind_some, List.getElem?_eq_getElem (by rw [← h.l1]; exact hj)] at hl
    cases h2 : idxX g.ns s with
    | none => rw [h2] at hl; cases hl
    | some k =>
      rw [h2, Option.bind_some] at hl
      exact .inr ⟨j, k, _, rfl, rfl, List.getElem?_eq_getElem _, hl.symm⟩
theorem FrX.put {z : BS} {O : List (Option XP)} {f : Fr} {g : XF} (h : FrX z O f g) (hz : z.ns.Nodup) {i j k : Nat} {s : List UInt8} {v : V} (hi : z.ns[i]? = some s) (hj : idxI f.ns i = some j) (hk : idxX g.ns s = some k) (hv : VOk O v) : FrX z O (f.put j v) (g.put k v) := by
  have gj := idxI_at _ _ _ hj
  have gk := idxX_at _ _ _ hk
  refine ⟨h.out, by simp only [Fr.put, List.length_set]; exact h.l1, by simp only [XF.put, List.length_set]; exact h.l2, h.rng, h.nd, fun i2 s2 hi2 => ?_, fun u hu => ?_⟩
  · unfold lookI lookN Fr.put XF.put
    simp only
    by_cases hs : i2 = i
    · subst hs
      rw [hi] at hi2; cases hi2
      rw [hj, hk, Option.bind_some, Option.bind_some, List.getElem?_set_self (by rw [← h.l1]; exact get_lt gj), List.getElem?_set_self (by rw [← h.l2]; exact get_lt gk)]
    · have hne : s2 ≠ s := fun e => hs (nd_at hz hi2 (e ▸ hi))
      have hl := h.lk i2 s2 hi2
      unfold lookI lookN at hl
      have a1 : ((idxI f.ns i2).bind fun k => (f.vs.set j v)[k]?) = (idxI f.ns i2).bind fun k => f.vs[k]? := by
        cases h1 : idxI f.ns i2 with
        | none => rfl
        | some j2 =>
          have hj2 : j ≠ j2 := fun e => by
            have := idxI_at _ _ _ h1
            rw [← e, gj] at this
            cases this; exact hs rfl
          rw [Option.bind_some, Option.bind_some, List.getElem?_set_ne hj2]
      have a2 : ((idxX g.ns s2).bind fun q => (g.vs.set k v)[q]?) = (idxX g.ns s2).bind fun q => g.vs[q]? := by
        cases h1 : idxX g.ns s2 with
        | none => rfl
        | some k2 =>
          have hk2 : k ≠ k2 := fun e => by
            have := idxX_at _ _ _ h1
            rw [← e, gk] at this
            cases this; exact hne rfl
          rw [Option.bind_some, Option.bind_some, List.getElem?_set_ne hk2]
      rw [a1, a2]; exact hl
  · have hu : u ∈ g.vs.set k v := hu
    rcases List.mem_or_eq_of_mem_set hu with h1 | h1
    · exact h.ok u h1
    · subst h1; exact hv
theorem FrX.define {z : BS} {O : List (Option XP)} {f : Fr} {g : XF} (h : FrX z O f g) (hz : z.ns.Nodup) {i : Nat} {s : List UInt8} {v : V} (hi : z.ns[i]? = some s) (hv : VOk O v) : FrX z O (f.define i v) (g.define s v) := by
  unfold Fr.define XF.define
  rcases h.idx hi with ⟨h1, h2⟩ | ⟨j, k, u, h1, h2, _, _⟩
  · rw [h1, h2]
    refine ⟨h.out, by simp [h.l1], by simp [h.l2], fun n hn => ?_, ?_, fun i2 s2 hi2 => ?_, fun u hu => ?_⟩
    · simp only [List.mem_append, List.mem_singleton] at hn
      rcases hn with hn | hn
      · exact h.rng n hn
      · subst hn; have := get_lt hi; omega
    · simp only
      rw [List.nodup_append]
      refine ⟨h.nd, by simp, fun a ha b hb => ?_⟩
      simp at hb; subst hb
      rintro rfl
      unfold idxI at h1
      rw [if_pos (by rw [List.contains_eq_mem]; simpa using ha)] at h1
      cases h1
    · have hl := h.lk i2 s2 hi2
      unfold lookI lookN at hl ⊢
      simp only
      rw [idxI_snoc, idxX_snoc]
      rcases h.idx hi2 with ⟨q1, q2⟩ | ⟨j, k, u, q1, q2, q3, q4⟩
      · rw [q1, q2]
        simp only
        by_cases hs : i2 = i
        · subst hs
          rw [hi] at hi2; cases hi2
          rw [if_pos rfl, if_pos rfl, Option.bind_some, Option.bind_some, h.l1, h.l2]; simp
        · have hne : s ≠ s2 := fun e => hs (nd_at hz hi2 (e ▸ hi))
          rw [if_neg (by omega), if_neg hne]; rfl
      · rw [q1, q2]
        simp only [Option.bind_some]
        rw [get_snoc q3, get_snoc q4]
    · simp only [List.mem_append, List.mem_singleton] at hu
      rcases hu with hu | hu
      · exact h.ok u hu
      · subst hu; exact hv
  · rw [h1, h2]
    exact h.put hz hi h1 h2 hv
theorem NumR.length {z : BS} : ∀ {ns : List Nat} {xs : List (List UInt8)}, NumR z ns xs → ns.length = xs.length
  | [], [], _ => rfl
  | [], _ :: _, h => h.elim
  | _ :: _, [], h => h.elim
  | n :: ns, s :: r, h => by simp [NumR.length h.2]
theorem NumR.mem {z : BS} : ∀ {ns : List Nat} {xs : List (List UInt8)}, NumR z ns xs → ∀ n ∈ ns, ∃ s ∈ xs, z.ns[n]? = some s
  | [], [], _, n, hn => by simp at hn
  | [], _ :: _, h, _, _ => h.elim
  | _ :: _, [], h, _, _ => h.elim
  | m :: ns, s :: r, h, n, hn => by
    rcases List.mem_cons.1 hn with e | e
    · subst e; exact ⟨s, by simp, h.1⟩
    · obtain ⟨t, h1, h2⟩ := NumR.mem h.2 n e
      exact ⟨t, by simp [h1], h2⟩
theorem NumR.nodup {z : BS} : ∀ {ns : List Nat} {xs : List (List UInt8)}, NumR z ns xs → xs.Nodup → ns.Nodup
  | [], [], _, _ => by simp
  | [], _ :: _, h, _ => h.elim
  | _ :: _, [], h, _ => h.elim
  | m :: ns, s :: r, h, hn => by
    rw [List.nodup_cons] at hn ⊢
    refine ⟨fun hm => ?_, NumR.nodup h.2 hn.2⟩
    obtain ⟨t, h1, h2⟩ := NumR.mem h.2 m hm
    rw [h.1] at h2; cases h2
    exact hn.1 h1
theorem NumR.idx {z : BS} (hz : z.ns.Nodup) {i : Nat} {s : List UInt8} (hi : z.ns[i]? = some s) : ∀ {ns : List Nat} {xs : List (List UInt8)}, NumR z ns xs → idxI (ns.map Int.ofNat) i = idxX xs s
  | [], [], _ => rfl
  | [], _ :: _, h => h.elim
  | _ :: _, [], h => h.elim
  | m :: ns, t :: r, h => by
    rw [List.map_cons, idxI_cons, idxX_cons, NumR.idx hz hi h.2]
    by_cases hm : m = i
    · subst hm
      have := h.1
      rw [hi] at this; cases this
      rw [if_pos (show Int.ofNat m = (m : Int) from rfl), if_pos rfl]
    · have hne : t ≠ s := fun e => hm (nd_at hz h.1 (e ▸ hi))
      rw [if_neg (by intro e; exact hm (Int.ofNat.inj e)), if_neg hne]
/-- A frame of a call. -/
theorem FrX.new {z : BS} {O : List (Option XP)} (hz : z.ns.Nodup) {ns : List Nat} {xs : List (List UInt8)} {a : List V} {q : Option Nat} (h : NumR z ns xs) (hn : xs.Nodup) (hl : a.length = xs.length) (hv : ∀ v ∈ a, VOk O v) : FrX z O ⟨ns.map Int.ofNat, a, q⟩ ⟨xs, a, q⟩ := by
  refine ⟨rfl, by simp [h.length, hl], hl.symm, fun n hm => ?_, ?_, fun i s hi => ?_, hv⟩
  · simp only [List.mem_map] at hm
    obtain ⟨m, h1, rfl⟩ := hm
    obtain ⟨s, _, h2⟩ := h.mem m h1
    have := get_lt h2
    exact ⟨Int.natCast_nonneg m, by show (m : Int) < _; omega⟩
  · have := h.nodup hn
    exact List.Pairwise.map Int.ofNat (fun a b hab e => hab (Int.ofNat.inj e)) this
  · unfold lookI lookN
    simp only [h.idx hz hi]
/-- Frames side by side. -/
structure FrsX (z : BS) (O : List (Option XP)) (l : List Fr) (g : List XF) : Prop where
  len : l.length = g.length
  at' : ∀ (i : Nat) f x, l[i]? = some f → g[i]? = some x → FrX z O f x
theorem FrsX.get {z : BS} {O : List (Option XP)} {l : List Fr} {g : List XF} (h : FrsX z O l g) {i : Nat} (hi : i < g.length) : ∃ f x, l[i]? = some f ∧ g[i]? = some x ∧ FrX z O f x := by
  have h1 : l[i]? = some (l[i]'(by rw [h.len]; exact hi)) := List.getElem?_eq_getElem _
  have h2 : g[i]? = some g[i] := List.getElem?_eq_getElem _
  exact ⟨_, _, h1, h2, h.at' i _ _ h1 h2⟩
theorem FrsX.snoc {z : BS} {O : List (Option XP)} {l : List Fr} {g : List XF} (x : Option XP) (h : FrsX z O l g) : FrsX z (O ++ [x]) l g := ⟨h.len, fun i f y h1 h2 => (h.at' i f y h1 h2).snoc x⟩
theorem FrsX.set {z : BS} {O : List (Option XP)} {l : List Fr} {g : List XF} (h : FrsX z O l g) (i : Nat) {f : Fr} {x : XF} (hf : FrX z O f x) : FrsX z O (l.set i f) (g.set i x) := by
  refine ⟨by simp [h.len], fun j a b h1 h2 => ?_⟩
  by_cases hj : i = j
  · subst hj
    have hl := get_lt h1
    rw [List.length_set] at hl
    rw [List.getElem?_set_self hl] at h1
    rw [List.getElem?_set_self (by rw [← h.len]; exact hl)] at h2
    cases h1; cases h2; exact hf
  · rw [List.getElem?_set_ne hj] at h1 h2
    exact h.at' j a b h1 h2
theorem FrsX.add {z : BS} {O : List (Option XP)} {l : List Fr} {g : List XF} (h : FrsX z O l g) {f : Fr} {x : XF} (hf : FrX z O f x) : FrsX z O (l ++ [f]) (g ++ [x]) := by
  refine ⟨by simp [h.len], fun j a b h1 h2 => ?_⟩
  rcases Nat.lt_or_ge j l.length with hj | hj
  · rw [List.getElem?_append_left hj] at h1
    rw [List.getElem?_append_left (by rw [← h.len]; exact hj)] at h2
    exact h.at' j a b h1 h2
  · rw [List.getElem?_append_right hj] at h1
    rw [List.getElem?_append_right (by rw [← h.len]; exact hj), ← h.len] at h2
    have : j - l.length = 0 := by
      have := get_lt h1
      simp at this; omega
    rw [this] at h1 h2
    cases h1; cases h2; exact hf
/-- A variable is found in the same frame. -/
theorem FrsX.find {z : BS} {O : List (Option XP)} {l : List Fr} {g : List XF} (h : FrsX z O l g) {i : Nat} {s : List UInt8} (hi : z.ns[i]? = some s) : ∀ (k f : Nat), (findS l k f i = none ∧ findX g k f s = none) ∨ ∃ q j m fr x v, findS l k f i = some (q, j) ∧ findX g k f s = some (q, m) ∧ l[q]? = some fr ∧ g[q]? = some x ∧ FrX z O fr x ∧ idxI fr.ns i = some j ∧ idxX x.ns s = some m ∧ fr.vs[j]? = some v ∧ x.vs[m]? = some v
  | 0, f => .inl ⟨rfl, rfl⟩
  | k + 1, f => by
    unfold findS findX
    rcases Nat.lt_or_ge f g.length with hf | hf
    · obtain ⟨fr, x, h1, h2, h3⟩ := h.get hf
      rw [h1, h2]
      simp only
      rcases h3.idx hi with ⟨q1, q2⟩ | ⟨j, m, v, q1, q2, q3, q4⟩
      · rw [q1, q2, h3.out]
        cases hx : x.out with
        | none => exact .inl ⟨rfl, rfl⟩
        | some u => exact FrsX.find h hi k u
      · rw [q1, q2]
        exact .inr ⟨f, j, m, fr, x, v, rfl, rfl, h1, h2, h3, q1, q2, q3, q4⟩
    · rw [List.getElem?_eq_none hf, List.getElem?_eq_none (by rw [h.len]; exact hf)]
      exact .inl ⟨rfl, rfl⟩
/-- The outermost frame. -/
def outX : Nat → List (List UInt8) → XF → XF
  | _, [], f => f
  | k, s :: r, f => outX (k + 1) r (f.define s (.proc (2 * k)))
theorem outer_x {z : BS} {vs : List V} {O : List (Option XP)} (hz : z.ns.Nodup) : ∀ (l : List (List UInt8)) (k : Nat) (f : Fr) (g : XF), FrX z O f g → (∀ j, j < k + l.length → VOk O (.proc (2 * j))) → FrX z O (outerS (cdOf z vs) k l f) (outX k l g)
  | [], k, f, g, h, _ => h
  | s :: r, k, f, g, h, hO => by
    unfold outerS outX
    refine outer_x hz r (k + 1) _ _ ?_ (fun j hj => hO j (by simp; omega))
    split
    · rename_i hc
      have hm : s ∈ z.ns := by
        have hc : z.ns.contains s = true := hc
        rw [List.contains_eq_mem] at hc; simpa using hc
      have hi : z.ns[z.ns.idxOf s]? = some s := by rw [List.getElem?_eq_getElem (List.idxOf_lt_length_of_mem hm), List.getElem_idxOf]
      exact h.define hz hi (hO k (by simp))
    · rename_i hc
      have hm : s ∉ z.ns := by
        have hc : ¬ z.ns.contains s = true := hc
        rw [List.contains_eq_mem] at hc; simpa using hc
      unfold XF.define
      have hne : ∀ (i : Nat) (s2 : List UInt8), z.ns[i]? = some s2 → s ≠ s2 := fun i s2 h2 e => hm (by rw [e]; exact List.mem_of_getElem? h2)
      cases hx : idxX g.ns s with
      | some k2 =>
        refine ⟨h.out, h.l1, by simp only [XF.put, List.length_set]; exact h.l2, h.rng, h.nd, fun i s2 h2 => ?_, fun u hu => ?_⟩
        · rw [h.lk i s2 h2]
          unfold lookN XF.put
          simp only
          cases h1 : idxX g.ns s2 with
          | none => rfl
          | some k3 =>
            have hk : k2 ≠ k3 := fun e => by
              have a := idxX_at _ _ _ h1
              have b := idxX_at _ _ _ hx
              rw [← e, b] at a; cases a
              exact hne i _ h2 rfl
            rw [Option.bind_some, Option.bind_some, List.getElem?_set_ne hk]
        · have hu : u ∈ g.vs.set k2 (.proc (2 * k)) := hu
          rcases List.mem_or_eq_of_mem_set hu with h1 | h1
          · exact h.ok u h1
          · subst h1; exact hO k (by simp)
      | none =>
        refine ⟨h.out, h.l1, by simp [h.l2], h.rng, h.nd, fun i s2 h2 => ?_, fun u hu => ?_⟩
        · rw [h.lk i s2 h2]
          unfold lookN
          simp only
          rw [idxX_snoc]
          cases h1 : idxX g.ns s2 with
          | none => simp only; rw [if_neg (hne i s2 h2)]; rfl
          | some k3 =>
            simp only [Option.bind_some]
            have := get_lt (idxX_at _ _ _ h1)
            rw [List.getElem?_append_left (by rw [← h.l2]; exact this)]
        · simp only [List.mem_append, List.mem_singleton] at hu
          rcases hu with hu | hu
          · exact h.ok u hu
          · subst hu; exact hO k (by simp)
end Go.Proofs.YtlobegpjenabaaaGreatDoor
