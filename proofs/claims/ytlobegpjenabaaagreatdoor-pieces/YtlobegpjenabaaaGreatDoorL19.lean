/- The machine as plain functions. -/
import Derived.Test.YtlobegpjenabaaaGreatDoorL18
namespace Go.Proofs.YtlobegpjenabaaaGreatDoor
set_option linter.unusedSimpArgs false
set_option linter.unusedVariables false

/-- What is pending: its frame, where it is taken up, the values so far (the newest first). -/
structure En where
  fr : Nat
  nx : Int
  got : List V
/-- What a procedure does: one of the first; a lambda's body within a frame; what is to be done. -/
inductive PK where
  | first (k : Nat)
  | clo (l f : Nat)
  | kont (st : List En)
/-- A frame: names' numbers, their values, the frame around it. -/
structure Fr where
  ns : List Int
  vs : List V
  out : Option Nat
/-- A machine that is running. app: what is to be applied, and to what; obs: what there is of pairs and procedures, by number. -/
structure MS where
  pc : Int
  val : Option V
  fr : Nat
  app : Option (V × List V)
  st : List En
  out : List (List UInt8)
  frs : List Fr
  obs : List (Option PK)
/-- Code: instructions, constants, names, lambdas. (Numbers of pairs and procedures: even ones are the machine's, odd ones are of the code's data.) -/
structure Cd where
  is : List (Int × Int)
  cs : List V
  ns : List (List UInt8)
  ls : List (List UInt8 × List Nat × Nat)
/-- What an instruction comes to. -/
inductive SR where
  | ok (s : MS)
  | err (e : Int) (d : Nat) (o : List (List UInt8))
  | done (t : List UInt8) (o : List (List UInt8))
  | bad

def w64 (x : Int) : Int := (x + 9223372036854775808) % 18446744073709551616 - 9223372036854775808
def idxI (l : List Int) (n : Int) : Option Nat := if l.contains n then some (l.idxOf n) else none
/-- The frame that has a variable, and where. -/
def findS (frs : List Fr) : Nat → Nat → Int → Option (Nat × Nat)
  | 0, _, _ => none
  | k + 1, f, n => match frs[f]? with
    | none => none
    | some fr => match idxI fr.ns n with
      | some i => some (f, i)
      | none => match fr.out with
        | none => none
        | some g => findS frs k g n
def Fr.put (fr : Fr) (i : Nat) (v : V) : Fr := { fr with vs := fr.vs.set i v }
def Fr.define (fr : Fr) (n : Int) (v : V) : Fr := match idxI fr.ns n with
  | some i => fr.put i v
  | none => { fr with ns := fr.ns ++ [n], vs := fr.vs ++ [v] }
def sameV : V → V → Bool
  | .int a, .int b => a == b
  | .bool a, .bool b => a == b
  | .sym a, .sym b => a == b
  | .empty, .empty => true
  | .nothing, .nothing => true
  | .pair i _ _, .pair j _ _ => i == j
  | .proc i, .proc j => i == j
  | _, _ => false
/-- A value is given to what is to be done. -/
def giveS (s : MS) (v : V) : SR := match s.st with
  | e :: _ => .ok { s with val := some v, pc := e.nx, fr := e.fr }
  | [] => .bad
def errS (s : MS) (e : Int) : SR := match s.st with
  | _ :: r => .err e r.length s.out
  | [] => .bad
def intsS (s : MS) (f : Int → Int → V) : V → V → SR
  | .int a, .int b => giveS s (f a b)
  | _, _ => errS s 8
/-- One of the first procedures, of as many values as it wants. -/
def firstS (C : Cd) (s : MS) : Nat → List V → SR
  | 0, [a, b] => intsS s (fun x y => .int (w64 (x + y))) a b
  | 1, [a, b] => intsS s (fun x y => .int (w64 (x - y))) a b
  | 2, [a, b] => intsS s (fun x y => .int (w64 (x * y))) a b
  | 3, [a, b] => intsS s (fun x y => .bool (decide (x < y))) a b
  | 4, [a, b] => intsS s (fun x y => .bool (x == y)) a b
  | 5, [a, b] => giveS { s with obs := s.obs ++ [none] } (.pair (2 * s.obs.length) a b)
  | 6, [a] => match a with
    | .pair _ x _ => giveS s x
    | _ => errS s 8
  | 7, [a] => match a with
    | .pair _ _ y => giveS s y
    | _ => errS s 8
  | 8, [a] => giveS s (.bool (sameV a .empty))
  | 9, [a] => match a with
    | .pair _ _ _ => giveS s (.bool true)
    | _ => giveS s (.bool false)
  | 10, [a] => giveS s (.bool (sameV a (.bool false)))
  | 11, [a, b] => giveS s (.bool (sameV a b))
  | 12, [a] => if s.out.length = 40 then errS s 10 else giveS { s with out := s.out ++ [(toldS a).take 100] } .nothing
  | 13, [a] => .ok { s with app := some (a, [.proc (2 * s.obs.length)]), obs := s.obs ++ [some (.kont s.st)], pc := s.pc - 1 }
  | _, _ => .bad
/-- How many values the first procedures want. -/
def needS (k : Nat) : Nat := if k = 6 ∨ k = 7 ∨ k = 8 ∨ k = 9 ∨ k = 10 ∨ k = 12 ∨ k = 13 then 1 else 2
def procS? (s : MS) (id : Nat) : Option PK := if id % 2 = 0 then (match s.obs[id / 2]? with
  | some (some k) => some k
  | _ => none) else none
/-- A procedure is applied. -/
def doS (C : Cd) (s : MS) (a : List V) : PK → SR
  | .first k => if a.length = needS k then firstS C s k a else errS s 7
  | .clo l f => match C.ls[l]? with
    | some (_, ns, e) => if a.length = ns.length then .ok { s with frs := s.frs ++ [⟨ns.map Int.ofNat, a, some f⟩], fr := s.frs.length, pc := e } else errS s 7
    | none => .bad
  | .kont st => match a with
    | [v] => giveS { s with st := st } v
    | _ => errS s 7
def applyS (C : Cd) (s : MS) : SR := match s.app with
  | some (.proc id, a) => match procS? s id with
    | some k => doS C { s with app := none } a k
    | none => .bad
  | some _ => errS s 6
  | none => .bad
/-- One instruction, behind the place's step. -/
def opS (C : Cd) (s : MS) (op n : Int) : SR := match op with
  | 0 => .ok { s with st := [⟨s.fr, n, []⟩] }
  | 1 => match C.cs[n.toNat]? with
    | some v => .ok { s with val := some v }
    | none => .bad
  | 2 => match findS s.frs (s.fr + 1) s.fr n with
    | some (f, i) => match s.frs[f]? with
      | some fr => match fr.vs[i]? with
        | some v => .ok { s with val := some v }
        | none => .bad
      | none => .bad
    | none => errS s 5
  | 3 => if n.toNat < C.ls.length then .ok { s with val := some (.proc (2 * s.obs.length)), obs := s.obs ++ [some (.clo n.toNat s.fr)] } else .bad
  | 4 => if s.st.length = 201 then errS s 9 else if s.st.length = 0 ∨ 201 < s.st.length then .bad else .ok { s with st := ⟨s.fr, n, []⟩ :: s.st }
  | 5 => match s.st, s.val with
    | e :: r, some v => if e.got.length < 1000000 then .ok { s with st := ⟨e.fr, n, v :: e.got⟩ :: r } else .bad
    | _, _ => .bad
  | 6 => match s.st with
    | e :: r => .ok { s with st := ⟨e.fr, n, e.got⟩ :: r }
    | [] => .bad
  | 7 => match s.st with
    | _ :: r => .ok { s with st := r }
    | [] => .bad
  | 8 => match s.st, s.val with
    | _ :: r, some v => .ok { s with st := r, pc := if sameV v (.bool false) then n else s.pc }
    | _, _ => .bad
  | 9 => match s.st, s.val with
    | _ :: r, some v => match s.frs[s.fr]? with
      | some fr => if fr.ns.length < 1000000 then .ok { s with st := r, val := some .nothing, frs := s.frs.set s.fr (fr.define n v) } else .bad
      | none => .bad
    | _, _ => .bad
  | 10 => match s.st, s.val with
    | _ :: r, some v => match findS s.frs (s.fr + 1) s.fr n with
      | some (f, i) => match s.frs[f]? with
        | some fr => .ok { s with st := r, val := some .nothing, frs := s.frs.set f (fr.put i v) }
        | none => .bad
      | none => errS { s with st := r } 5
    | _, _ => .bad
  | 11 => match s.st, s.val with
    | e :: r, some v => match (v :: e.got).reverse with
      | p :: a => .ok { s with app := some (p, a), st := r }
      | [] => .bad
    | _, _ => .bad
  | 12 => applyS C s
  | 13 => match s.st with
    | e :: _ => .ok { s with pc := e.nx, fr := e.fr }
    | [] => .bad
  | 14 => .done (match s.val with
    | some v => (toldS v).take 100
    | none => []) s.out
  | _ => .bad
def fetchS (C : Cd) (s : MS) : Option (Int × Int) := if 0 ≤ s.pc then C.is[s.pc.toNat]? else none
def stepS (C : Cd) (s : MS) : SR := match fetchS C s with
  | some (op, n) => if 0 ≤ n then opS C { s with pc := s.pc + 1 } op n else .bad
  | none => .bad
/-- What a run comes to. -/
inductive RR where
  | run (s : MS)
  | err (e : Int) (d : Nat) (o : List (List UInt8))
  | done (t : List UInt8) (o : List (List UInt8))
/-- A run: at most n applications, of which some were made; none: it came to no end. -/
def goS (C : Cd) : Nat → MS → Nat → Nat → Option (Nat × RR)
  | 0, _, _, _ => none
  | k + 1, s, n, made => match fetchS C s with
    | none => none
    | some (op, _) =>
      if op = 12 ∧ made = n then some (made, .run s)
      else
        let made' := if op = 12 then made + 1 else made
        match stepS C s with
        | .ok s' => goS C k s' n made'
        | .err e d o => some (made', .err e d o)
        | .done t o => some (made', .done t o)
        | .bad => none
/-- The names of the first procedures. -/
def firstN : List (List UInt8) := [[43], [45], [42], [60], [61], [99, 111, 110, 115], [99, 97, 114], [99, 100, 114], [110, 117, 108, 108, 63], [112, 97, 105, 114, 63], [110, 111, 116], [101, 113, 63], [100, 105, 115, 112, 108, 97, 121], [99, 97, 108, 108, 47, 99, 99]]
/-- The outermost frame, with the first procedures from k on. -/
def outerS (C : Cd) : Nat → List (List UInt8) → Fr → Fr
  | _, [], f => f
  | k, s :: r, f => outerS C (k + 1) r (if C.ns.contains s then f.define (C.ns.idxOf s : Nat) (.proc (2 * k)) else f)
def startS (C : Cd) : MS :=
  { pc := 0, val := none, fr := 0, app := none, st := [⟨0, 0, []⟩], out := [], frs := [outerS C 0 firstN ⟨[], [], none⟩], obs := (List.range 14).map fun k => some (.first k) }
end Go.Proofs.YtlobegpjenabaaaGreatDoor

/- The machine in memory: values, rows, the stack, frames. -/
namespace Go.Proofs.YtlobegpjenabaaaGreatDoor
open Go.RowKit
set_option linter.unusedSimpArgs false
set_option linter.unusedVariables false

/-- More is known of where things lie. -/
def Le (a b : Nat → Option Nat) : Prop := ∀ i g, a i = some g → b i = some g
theorem Le.refl (a : Nat → Option Nat) : Le a a := fun _ _ h => h
theorem Le.trans {a b c : Nat → Option Nat} (h : Le a b) (k : Le b c) : Le a c := fun i g x => k i g (h i g x)

/-- A value in memory; mo: where pairs and procedures lie. -/
def VX (w : World) (mo : Nat → Option Nat) : V → Value → Prop
  | .int k, v => v = .iface 130 (.int .i64 k) ∧ -9223372036854775808 ≤ k ∧ k ≤ 9223372036854775807
  | .bool b, v => v = .iface 131 (.bool b)
  | .sym s, v => v = .iface 134 (.string ⟨s.toArray⟩) ∧ s.length ≤ 8000
  | .empty, v => v = .iface 207 (.agg #[])
  | .nothing, v => v = .iface 259 (.agg #[])
  | .pair id a b, v => ∃ g x y, mo id = some g ∧ v = .iface 136 (.pointer (some ⟨g, 0, none⟩)) ∧ w.heap[g]? = some (Obj.cells #[x, y] 205 (0, 0)) ∧ VX w mo a x ∧ VX w mo b y
  | .proc id, v => id % 2 = 0 ∧ ∃ g, mo id = some g ∧ v = .iface 216 (.pointer (some ⟨g, 0, none⟩))
theorem VX.keep {w w' : World} {mo mo' : Nat → Option Nat} (k : Keep 205 w w') (hm : Le mo mo') : ∀ (v : V) (x : Value), VX w mo v x → VX w' mo' v x
  | .int _, _, h => h
  | .bool _, _, h => h
  | .sym _, _, h => h
  | .empty, _, h => h
  | .nothing, _, h => h
  | .pair id a b, _, ⟨g, x, y, h1, h2, h3, h4, h5⟩ => ⟨g, x, y, hm _ _ h1, h2, k _ _ h3, VX.keep k hm a x h4, VX.keep k hm b y h5⟩
  | .proc id, _, ⟨h0, g, h1, h2⟩ => ⟨h0, g, hm _ _ h1, h2⟩
theorem VX.form {w : World} {mo : Nat → Option Nat} : ∀ {v : V} {x : Value}, VX w mo v x → ∃ t y, x = .iface t y
  | .int _, _, h => ⟨_, _, h.1⟩
  | .bool _, _, h => ⟨_, _, h⟩
  | .sym _, _, h => ⟨_, _, h.1⟩
  | .empty, _, h => ⟨_, _, h⟩
  | .nothing, _, h => ⟨_, _, h⟩
  | .pair _ _ _, _, ⟨_, _, _, _, h, _⟩ => ⟨_, _, h⟩
  | .proc _, _, ⟨_, _, _, h⟩ => ⟨_, _, h⟩
/-- As value.Told wants it. -/
theorem VX.vr {w : World} {mo : Nat → Option Nat} (hl : ∀ i g, mo i = some g → g < w.heap.size) : ∀ (v : V) (x : Value), VX w mo v x → VR w w.heap.size (fun i => (mo i).getD 0) v x
  | .int _, _, h => h
  | .bool _, _, h => h
  | .sym _, _, h => h
  | .empty, _, h => h
  | .nothing, _, h => h
  | .pair id a b, _, ⟨g, x, y, h1, h2, h3, h4, h5⟩ => by
    have hg : (mo id).getD 0 = g := by rw [h1]; rfl
    exact ⟨by simp only [hg]; exact h2, by simp only [hg]; exact hl _ _ h1, x, y, by simp only [hg]; exact h3, VX.vr hl a x h4, VX.vr hl b y h5⟩
  | .proc id, _, ⟨_, g, h1, h2⟩ => by
    have hg : (mo id).getD 0 = g := by rw [h1]; rfl
    exact ⟨by simp only [hg]; exact h2, by simp only [hg]; exact hl _ _ h1⟩
/-- A value, or none yet. -/
def OV (w : World) (mo : Nat → Option Nat) : Option V → Value → Prop
  | none, v => v = .nilIface
  | some v, x => VX w mo v x
theorem OV.keep {w w' : World} {mo mo' : Nat → Option Nat} (k : Keep 205 w w') (hm : Le mo mo') : ∀ (v : Option V) (x : Value), OV w mo v x → OV w' mo' v x
  | none, _, h => h
  | some v, x, h => VX.keep k hm v x h
def VXs (w : World) (mo : Nat → Option Nat) : List V → List Value → Prop
  | [], [] => True
  | v :: vs, x :: xs => VX w mo v x ∧ VXs w mo vs xs
  | _, _ => False
theorem VXs.keep {w w' : World} {mo mo' : Nat → Option Nat} (k : Keep 205 w w') (hm : Le mo mo') : ∀ (v : List V) (x : List Value), VXs w mo v x → VXs w' mo' v x
  | [], [], _ => trivial
  | [], _ :: _, h => h.elim
  | _ :: _, [], h => h.elim
  | v :: vs, x :: xs, h => ⟨VX.keep k hm v x h.1, VXs.keep k hm vs xs h.2⟩
theorem VXs.length {w : World} {mo : Nat → Option Nat} : ∀ {v : List V} {x : List Value}, VXs w mo v x → v.length = x.length
  | [], [], _ => rfl
  | [], _ :: _, h => h.elim
  | _ :: _, [], h => h.elim
  | v :: vs, x :: xs, h => by simp [VXs.length h.2]
theorem VXs.append {w : World} {mo : Nat → Option Nat} : ∀ {v v' : List V} {x x' : List Value}, VXs w mo v x → VXs w mo v' x' → VXs w mo (v ++ v') (x ++ x')
  | [], _, [], _, _, h => h
  | [], _, _ :: _, _, h, _ => h.elim
  | _ :: _, _, [], _, h, _ => h.elim
  | v :: vs, _, x :: xs, _, h, h' => ⟨h.1, VXs.append h.2 h'⟩
theorem VXs.reverse {w : World} {mo : Nat → Option Nat} : ∀ {v : List V} {x : List Value}, VXs w mo v x → VXs w mo v.reverse x.reverse
  | [], [], _ => trivial
  | [], _ :: _, h => h.elim
  | _ :: _, [], h => h.elim
  | v :: vs, x :: xs, h => by
    rw [List.reverse_cons, List.reverse_cons]
    exact VXs.append (VXs.reverse h.2) ⟨h.1, trivial⟩
theorem VXs.get {w : World} {mo : Nat → Option Nat} : ∀ {v : List V} {x : List Value} (i : Nat) (a : V), VXs w mo v x → v[i]? = some a → ∃ y, x[i]? = some y ∧ VX w mo a y
  | [], _, i, a, _, h => by simp at h
  | _ :: _, [], _, _, h, _ => h.elim
  | v :: vs, x :: xs, 0, a, h, e => by simp at e; subst e; exact ⟨x, rfl, h.1⟩
  | v :: vs, x :: xs, i + 1, a, h, e => VXs.get i a h.2 e
theorem VXs.set {w : World} {mo : Nat → Option Nat} : ∀ {v : List V} {x : List Value} (i : Nat) (a : V) (y : Value), VXs w mo v x → VX w mo a y → VXs w mo (v.set i a) (x.set i y)
  | [], [], _, _, _, _, _ => trivial
  | [], _ :: _, _, _, _, h, _ => h.elim
  | _ :: _, [], _, _, _, h, _ => h.elim
  | v :: vs, x :: xs, 0, a, y, h, e => ⟨e, h.2⟩
  | v :: vs, x :: xs, i + 1, a, y, h, e => ⟨h.1, VXs.set i a y h.2 e⟩
theorem VXs.forms {w : World} {mo : Nat → Option Nat} : ∀ {v : List V} {x : List Value}, VXs w mo v x → ∀ y ∈ x, ∃ t z, y = .iface t z
  | [], [], _, y, hy => by simp at hy
  | [], _ :: _, h, _, _ => h.elim
  | _ :: _, [], h, _, _ => h.elim
  | v :: vs, x :: xs, h, y, hy => by
    rcases List.mem_cons.1 hy with e | e
    · subst e; exact h.1.form
    · exact VXs.forms h.2 y e

/-- The values of what is pending, in memory. -/
def ItX (w : World) (mo : Nat → Option Nat) (p : Option Addr) (l : List V) : Prop := ∃ xs, ItR w p xs ∧ VXs w mo l xs
theorem ItX.keep {w w' : World} {mo mo' : Nat → Option Nat} (k : Keep 205 w w') (ki : Keep 333 w w') (hm : Le mo mo') {p : Option Addr} {l : List V} : ItX w mo p l → ItX w' mo' p l
  | ⟨xs, h1, h2⟩ => ⟨xs, ItR.keep ki _ _ h1, VXs.keep k hm _ _ h2⟩
/-- The stack in memory; mf: where frames lie. -/
def StX (w : World) (mo mf : Nat → Option Nat) : Option Addr → List En → Prop
  | p, [] => p = none
  | p, e :: r => ∃ g q gf got, p = some ⟨g, 0, none⟩ ∧ w.heap[g]? = some (Obj.cells (enC q r.length (some ⟨gf, 0, none⟩) e.nx got) 115 (0, 0)) ∧ mf e.fr = some gf ∧ ItX w mo got e.got ∧ e.got.length ≤ 1000000 ∧ r.length ≤ 1000 ∧ StX w mo mf q r
theorem StX.keep {w w' : World} {mo mo' mf mf' : Nat → Option Nat} (k : Keep 205 w w') (ki : Keep 333 w w') (ke : Keep 115 w w') (hm : Le mo mo') (hf : Le mf mf') : ∀ {l : List En} {p : Option Addr}, StX w mo mf p l → StX w' mo' mf' p l
  | [], _, h => h
  | e :: r, _, ⟨g, q, gf, got, h1, h2, h3, h4, h5, h6, h7⟩ => ⟨g, q, gf, got, h1, ke _ _ h2, hf _ _ h3, h4.keep k ki hm, h5, h6, StX.keep k ki ke hm hf h7⟩

/-- A row of one-cell elements: with spare room only in a block of own; a full one in a block of own or of sh. -/
def Rw (w : World) (T : TypeId) (own sh : Nat → Prop) (u : Value) (xs : List Value) : Prop :=
  (u = .slice none 0 0 ∧ xs = []) ∨ ∃ g off cap cu, u = .slice (some ⟨g, off, none⟩) xs.length cap ∧ xs.length ≤ cap ∧ cap ≤ maxLen ∧ w.heap[g]? = some (Obj.cells cu T (0, 0)) ∧ (cu.toList.drop off).take xs.length = xs ∧ ((own g ∧ off = 0 ∧ cu.size = cap) ∨ (sh g ∧ cap = xs.length))
theorem Rw.imp {w w' : World} {T : TypeId} {own sh own' sh' : Nat → Prop} {u : Value} {xs : List Value} (h : Rw w T own sh u xs) (ho : ∀ g c, own g → w.heap[g]? = some (Obj.cells c T (0, 0)) → own' g ∧ w'.heap[g]? = some (Obj.cells c T (0, 0))) (hs : ∀ g c, sh g → w.heap[g]? = some (Obj.cells c T (0, 0)) → sh' g ∧ w'.heap[g]? = some (Obj.cells c T (0, 0))) : Rw w' T own' sh' u xs := by
  rcases h with h | ⟨g, off, cap, cu, h1, h2, h2', h3, h4, h5⟩
  · exact .inl h
  · rcases h5 with ⟨a, b, c⟩ | ⟨a, b⟩
    · have := ho g cu a h3
      exact .inr ⟨g, off, cap, cu, h1, h2, h2', this.2, h4, .inl ⟨this.1, b, c⟩⟩
    · have := hs g cu a h3
      exact .inr ⟨g, off, cap, cu, h1, h2, h2', this.2, h4, .inr ⟨this.1, b⟩⟩
theorem Rw.of_own {w : World} {B : Nat} {T : TypeId} {own sh : Nat → Prop} {u : Value} {n : Nat} {xs : List Value} (h : w.ownsRow B T 1 u n xs) (ho : ∀ k, u.ownBlock = some k → own k) : Rw w T own sh u xs := by
  obtain ⟨h0, h | ⟨g, cap, cu, h1, h2, h3, h4, h5, h6, h7⟩⟩ := h
  · refine .inl ⟨h.1, List.eq_nil_of_length_eq_zero ?_⟩
    rw [h0, h.2]
  · rw [Nat.mul_one] at h0 h7 h6
    subst h0
    exact .inr ⟨g, 0, cap, cu, h1, h4, h5, h3, by rw [List.drop_zero]; exact h7, .inl ⟨ho g (by rw [h1]; rfl), rfl, h6⟩⟩
/-- The slice, and its cells. -/
theorem Rw.at {w : World} {T : TypeId} {own sh : Nat → Prop} {u : Value} {xs : List Value} (h : Rw w T own sh u xs) : ∃ a cap, u = .slice a xs.length cap ∧ xs.length ≤ cap ∧ cap ≤ maxLen ∧ (a = none → xs = [] ∧ cap = 0) ∧ ∀ i (hi : i < xs.length), ∃ g off c, a = some ⟨g, off, none⟩ ∧ (own g ∨ sh g) ∧ w.heap[g]? = some (Obj.cells c T (0, 0)) ∧ w.cell? ⟨g, off + i, none⟩ = some xs[i] := by
  rcases h with ⟨rfl, rfl⟩ | ⟨g, off, cap, cu, h1, h2, h2', h3, h4, h5⟩
  · exact ⟨none, 0, rfl, Nat.le_refl _, Nat.zero_le _, fun _ => ⟨rfl, rfl⟩, fun i hi => absurd hi (by simp)⟩
  · refine ⟨some ⟨g, off, none⟩, cap, h1, h2, h2', (fun e => by cases e), fun i hi => ⟨g, off, cu, rfl, h5.imp (·.1) (·.1), h3, ?_⟩⟩
    rw [cell_of_block h3]
    have hx : ((cu.toList.drop off).take xs.length)[i]? = some xs[i] := by rw [h4]; simp [hi]
    rw [List.getElem?_take, if_pos hi, List.getElem?_drop] at hx
    rw [← Array.getElem?_toList]; exact hx
/-- A cell of it is written. -/
theorem Rw.put {w : World} {T : TypeId} {own sh : Nat → Prop} {xs : List Value} {g off cap : Nat} (h : Rw w T own sh (.slice (some ⟨g, off, none⟩) xs.length cap) xs) (i : Nat) (v : Value) (hi : i < xs.length) : Rw (w.setCell ⟨g, off + i, none⟩ v) T own sh (.slice (some ⟨g, off, none⟩) xs.length cap) (xs.set i v) := by
  rcases h with ⟨h, _⟩ | ⟨g', off', cap', cu, h1, h2, h2', h3, h4, h5⟩
  · cases h
  · cases h1
    refine .inr ⟨g, off, cap, cu.setIfInBounds (off + i) v, by rw [List.length_set], by rw [List.length_set]; exact h2, h2', heap_setCell_same h3, ?_, by rw [List.length_set]; simpa using h5⟩
    rw [List.length_set, Array.toList_setIfInBounds, List.drop_set, if_neg (by omega), Nat.add_sub_cancel_left, List.take_set, h4]

/-- A frame in block g; its own blocks have the mark i + 1. -/
structure FrR (w : World) (X : Nat → Prop) (ow mo mf : Nat → Option Nat) (i : Nat) (fr : Fr) (g : Nat) (pn : ByteArray) (nv vv : Value) (op : Option Addr) (xs : List Value) : Prop where
  tag : ow g = some (i + 1)
  hS : w.heap[g]? = some (Obj.cells #[.string pn, nv, vv, .pointer op] 176 (0, 0))
  nr : Rw w 3 (fun k => ow k = some (i + 1)) (fun k => ¬ X k) nv (fr.ns.map (Value.int .i64))
  vr : Rw w 81 (fun k => ow k = some (i + 1)) (fun k => ow k = some (i + 1)) vv xs
  vs : VXs w mo fr.vs xs
  out : match fr.out with
    | none => op = none
    | some j => j < i ∧ ∃ gj, mf j = some gj ∧ op = some ⟨gj, 0, none⟩
  len : fr.ns.length = fr.vs.length
  le : fr.ns.length ≤ 1000000
theorem FrR.keep {w w' : World} {X X' : Nat → Prop} {ow ow' mo mo' mf mf' : Nat → Option Nat} {i g : Nat} {fr : Fr} {pn : ByteArray} {nv vv : Value} {op : Option Addr} {xs : List Value} (h : FrR w X ow mo mf i fr g pn nv vv op xs)
    (k : Keep 205 w w') (hm : Le mo mo') (hf : Le mf mf') (ho : ∀ b, b < w.heap.size → ow b = some (i + 1) → ow' b = some (i + 1) ∧ w'.heap[b]? = w.heap[b]?) (hx : ∀ b, b < w.heap.size → ¬ X b → ¬ X' b ∧ w'.heap[b]? = w.heap[b]?) : FrR w' X' ow' mo' mf' i fr g pn nv vv op xs := by
  have h1 := ho g (lt_of_some h.hS) h.tag
  refine ⟨h1.1, by rw [h1.2]; exact h.hS, h.nr.imp (fun b c hb hc => ?_) (fun b c hb hc => ?_), h.vr.imp (fun b c hb hc => ?_) (fun b c hb hc => ?_), VXs.keep k hm _ _ h.vs, ?_, h.len, h.le⟩
  · have := ho b (lt_of_some hc) hb; exact ⟨this.1, by rw [this.2]; exact hc⟩
  · have := hx b (lt_of_some hc) hb; exact ⟨this.1, by rw [this.2]; exact hc⟩
  · have := ho b (lt_of_some hc) hb; exact ⟨this.1, by rw [this.2]; exact hc⟩
  · have := ho b (lt_of_some hc) hb; exact ⟨this.1, by rw [this.2]; exact hc⟩
  · have := h.out
    revert this
    cases fr.out with
    | none => exact fun h => h
    | some j => rintro ⟨h1, gj, h2, h3⟩; exact ⟨h1, gj, hf _ _ h2, h3⟩
end Go.Proofs.YtlobegpjenabaaaGreatDoor

/- The machine in memory: code, procedures, the machine. -/
namespace Go.Proofs.YtlobegpjenabaaaGreatDoor
open Go.RowKit
set_option linter.unusedSimpArgs false
set_option linter.unusedVariables false

/-- The types of blocks that a machine writes into. -/
def MT : List TypeId := [119, 176, 3, 81, 9]
/-- Blocks of other types are as they were. -/
def KI (w w' : World) : Prop := ∀ T, MT.contains T = false → Keep T w w'
theorem KI.refl (w : World) : KI w w := fun _ _ => Keep.refl _
theorem KI.trans {a b c : World} (h : KI a b) (k : KI b c) : KI a c := fun T hT => (h T hT).trans (k T hT)
theorem KI.of_below {w w' : World} (h : Below w.heap.size w w') : KI w w' := fun _ _ => Keep.of_below h
/-- The blocks of S are of these types. -/
def XTy (w : World) (B : Nat) (S : Nat → Prop) : Prop := ∀ k, S k → B ≤ k ∧ ∃ c T, w.heap[k]? = some (Obj.cells c T (0, 0)) ∧ MT.contains T = true
theorem KI.of_upd {w w' : World} {B : Nat} {S : Nat → Prop} (hx : XTy w B S) (h : Upd S w w') : KI w w' := fun T hT => Keep.of_upd h fun k c hk hc => by
  obtain ⟨_, c', T', h1, h2⟩ := hx k hk
  rw [hc] at h1; cases h1
  rw [hT] at h2; cases h2

/-- A row that nothing writes into. -/
def OR (w : World) (X : Nat → Prop) (T : TypeId) (s : Nat) (u : Value) (n : Nat) (xs : List Value) : Prop := w.ownsRow 0 T s u n xs ∧ ∀ k, u.ownBlock = some k → ¬ X k
theorem OR.keep {w w' : World} {X X' : Nat → Prop} {T : TypeId} {s n : Nat} {u : Value} {xs : List Value} (h : OR w X T s u n xs) (hx : ∀ b, b < w.heap.size → ¬ X b → ¬ X' b ∧ w'.heap[b]? = w.heap[b]?) : OR w' X' T s u n xs := by
  obtain ⟨⟨h0, h1⟩, h2⟩ := h
  rcases h1 with h1 | ⟨g, cap, cu, h3, h4, h5, h6⟩
  · exact ⟨⟨h0, .inl h1⟩, fun k hk => by rw [h1.1] at hk; cases hk⟩
  · have hg := hx g (lt_of_some h5) (h2 g (by rw [h3]; rfl))
    refine ⟨⟨h0, .inr ⟨g, cap, cu, h3, h4, by rw [hg.2]; exact h5, h6⟩⟩, fun k hk => ?_⟩
    rw [h3] at hk; cases hk; exact hg.1
def intsV (ns : List Nat) : List Value := ns.map fun (k : Nat) => Value.int .i64 k
/-- A lambda's three cells. -/
def L1 (w : World) (X : Nat → Prop) (l : List UInt8 × List Nat × Nat) (a b c : Value) : Prop := a = strV l.1 ∧ OR w X 3 1 b l.2.1.length (intsV l.2.1) ∧ c = .int .i64 l.2.2 ∧ l.2.1.length ≤ 1000000
def LX (w : World) (X : Nat → Prop) : List (List UInt8 × List Nat × Nat) → List Value → Prop
  | [], [] => True
  | l :: ls, a :: b :: c :: vs => L1 w X l a b c ∧ LX w X ls vs
  | _, _ => False
theorem LX.keep {w w' : World} {X X' : Nat → Prop} (hx : ∀ b, b < w.heap.size → ¬ X b → ¬ X' b ∧ w'.heap[b]? = w.heap[b]?) : ∀ (l : List (List UInt8 × List Nat × Nat)) (v : List Value), LX w X l v → LX w' X' l v
  | [], [], _ => trivial
  | [], _ :: _, h => h.elim
  | _ :: _, [], h => h.elim
  | _ :: _, [_], h => h.elim
  | _ :: _, [_, _], h => h.elim
  | l :: ls, a :: b :: c :: vs, h => ⟨⟨h.1.1, h.1.2.1.keep hx, h.1.2.2⟩, LX.keep hx ls vs h.2⟩
theorem LX.get {w : World} {X : Nat → Prop} : ∀ (ls : List (List UInt8 × List Nat × Nat)) (vs : List Value) (i : Nat) (l : List UInt8 × List Nat × Nat), LX w X ls vs → ls[i]? = some l → ∃ a b c, vs[i * 3]? = some a ∧ vs[i * 3 + 1]? = some b ∧ vs[i * 3 + 2]? = some c ∧ L1 w X l a b c
  | [], _, _, _, _, h => by simp at h
  | _ :: _, [], _, _, h, _ => h.elim
  | _ :: _, [_], _, _, h, _ => h.elim
  | _ :: _, [_, _], _, _, h, _ => h.elim
  | l :: ls, a :: b :: c :: vs, 0, l', h, e => by simp at e; subst e; exact ⟨a, b, c, rfl, rfl, rfl, h.1⟩
  | l :: ls, a :: b :: c :: vs, i + 1, l', h, e => by
    obtain ⟨x, y, z, h1, h2, h3, h4⟩ := LX.get ls vs i l' h.2 e
    refine ⟨x, y, z, ?_, ?_, ?_, h4⟩
    · rw [show (i + 1) * 3 = i * 3 + 3 by omega]; exact h1
    · rw [show (i + 1) * 3 + 1 = (i * 3 + 1) + 3 by omega]; exact h2
    · rw [show (i + 1) * 3 + 2 = (i * 3 + 2) + 3 by omega]; exact h3

/-- The numbers of pairs in the code's data: twice their block and one. -/
def datM (K : Nat) : Nat → Option Nat := fun i => if i % 2 = 1 ∧ i / 2 < K then some (i / 2) else none
/-- Code in memory; its data's pairs lie below K. -/
structure CdX (K : Nat) (w : World) (X : Nat → Prop) (b : Nat) (C : Cd) (c : Array Value) (u0 u1 u2 u3 : Value) (x1 x3 : List Value) : Prop where
  hS : w.heap[b]? = some (Obj.cells c 147 (0, 0))
  c0 : c[0]? = some u0
  c1 : c[1]? = some u1
  c2 : c[2]? = some u2
  c3 : c[3]? = some u3
  r0 : OR w X 174 2 u0 C.is.length (flatI C.is)
  r1 : OR w X 81 1 u1 C.cs.length x1
  v1 : VXs w (datM K) C.cs x1
  r2 : OR w X 9 1 u2 C.ns.length (C.ns.map strV)
  r3 : OR w X 213 3 u3 C.ls.length x3
  l3 : LX w X C.ls x3
  li : C.is.length ≤ 1000000
  ln : C.ns.length ≤ 1000000
  lc : C.cs.length ≤ 1000000
  ll : C.ls.length ≤ 1000000
  lb : K ≤ w.heap.size
theorem CdX.keep {K : Nat} {w w' : World} {X X' : Nat → Prop} {b : Nat} {C : Cd} {c : Array Value} {u0 u1 u2 u3 : Value} {x1 x3 : List Value} (h : CdX K w X b C c u0 u1 u2 u3 x1 x3) (k : KI w w') (hs : w.heap.size ≤ w'.heap.size) (hx : ∀ b, b < w.heap.size → ¬ X b → ¬ X' b ∧ w'.heap[b]? = w.heap[b]?) : CdX K w' X' b C c u0 u1 u2 u3 x1 x3 :=
  ⟨k _ (by decide) _ _ h.hS, h.c0, h.c1, h.c2, h.c3, h.r0.keep hx, h.r1.keep hx, VXs.keep (k _ (by decide)) (Le.refl _) _ _ h.v1, h.r2.keep hx, h.r3.keep hx, LX.keep hx _ _ h.l3, h.li, h.ln, h.lc, h.ll, Nat.le_trans h.lb hs⟩
def Code (K : Nat) (w : World) (X : Nat → Prop) (b : Nat) (C : Cd) : Prop := ∃ c u0 u1 u2 u3 x1 x3, CdX K w X b C c u0 u1 u2 u3 x1 x3
theorem Code.keep {K : Nat} {w w' : World} {X X' : Nat → Prop} {b : Nat} {C : Cd} (h : Code K w X b C) (k : KI w w') (hs : w.heap.size ≤ w'.heap.size) (hx : ∀ b, b < w.heap.size → ¬ X b → ¬ X' b ∧ w'.heap[b]? = w.heap[b]?) : Code K w' X' b C := by
  obtain ⟨c, u0, u1, u2, u3, x1, x3, h⟩ := h
  exact ⟨c, u0, u1, u2, u3, x1, x3, h.keep k hs hx⟩

/-- Of the first procedures but display and call/cc: which closure, of which method, of which type. -/
def wrF : List Nat := [211, 211, 211, 211, 211, 213, 214, 214, 215, 215, 215, 213]
def mtF : List Nat := [160, 161, 162, 163, 164, 166, 168, 169, 171, 172, 173, 174]
def ptrV (g : Nat) : Value := .pointer (some ⟨g, 0, none⟩)
/-- A variable that a closure has caught. -/
def Box (w : World) (b : Nat) (T : TypeId) (v : Value) : Prop := w.heap[b]? = some (Obj.cells #[v] T (0, 0))
/-- What a procedure does, as a value of a function. -/
def FnX (w : World) (X : Nat → Prop) (mo mf : Nat → Option Nat) (M : Nat) (C : Cd) : PK → Value → Prop
  | .first k, fv => (k = 12 ∧ fv = .func (.func 175) #[ptrV M] #[]) ∨ (k = 13 ∧ fv = .func (.func 176) #[ptrV M] #[]) ∨ (k < 12 ∧ ∃ mb fb T, MT.contains T = false ∧ fv = .func (.func (wrF.getD k 0)) #[] #[ptrV mb, ptrV fb] ∧ Box w mb 73 (ptrV M) ∧ Box w fb T (.func (.func (mtF.getD k 0)) #[ptrV M] #[]))
  | .clo l f, fv => ∃ nb lb ob mb gf z nm u ns e, fv = .func (.func 192) #[] #[ptrV nb, ptrV lb, ptrV ob, ptrV mb] ∧ Box w nb 9 (.string z) ∧ ¬ X nb ∧ w.heap[lb]? = some (Obj.cells #[strV nm, u, .int .i64 (e : Nat)] 213 (0, 0)) ∧ Box w ob 112 (ptrV gf) ∧ Box w mb 73 (ptrV M) ∧ mf f = some gf ∧ C.ls[l]? = some (nm, ns, e) ∧ OR w X 3 1 u ns.length (intsV ns) ∧ ns.length ≤ 1000000
  | .kont st, fv => ∃ tb mb top, fv = .func (.func 231) #[] #[ptrV tb, ptrV mb] ∧ Box w tb 111 (.pointer top) ∧ Box w mb 73 (ptrV M) ∧ StX w mo mf top st
theorem FnX.keep {w w' : World} {X X' : Nat → Prop} {mo mo' mf mf' : Nat → Option Nat} {M : Nat} {C : Cd} (k : KI w w') (hm : Le mo mo') (hf : Le mf mf') (hx : ∀ b, b < w.heap.size → ¬ X b → ¬ X' b ∧ w'.heap[b]? = w.heap[b]?) : ∀ {p : PK} {v : Value}, FnX w X mo mf M C p v → FnX w' X' mo' mf' M C p v
  | .first n, _, h => by
    rcases h with h | h | ⟨h1, mb, fb, T, h2, h3, h4, h5⟩
    · exact .inl h
    · exact .inr (.inl h)
    · exact .inr (.inr ⟨h1, mb, fb, T, h2, h3, k _ (by decide) _ _ h4, k _ h2 _ _ h5⟩)
  | .clo l f, _, ⟨nb, lb, ob, mb, gf, z, nm, u, ns, e, h1, h2, h3, h4, h5, h6, h7, h8, h9, h10⟩ =>
    ⟨nb, lb, ob, mb, gf, z, nm, u, ns, e, h1, (hx nb (lt_of_some h2) h3).2.trans h2, (hx nb (lt_of_some h2) h3).1, k _ (by decide) _ _ h4, k _ (by decide) _ _ h5, k _ (by decide) _ _ h6, hf _ _ h7, h8, h9.keep hx, h10⟩
  | .kont st, _, ⟨tb, mb, top, h1, h2, h3, h4⟩ => ⟨tb, mb, top, h1, k _ (by decide) _ _ h2, k _ (by decide) _ _ h3, h4.keep (k _ (by decide)) (k _ (by decide)) (k _ (by decide)) hm hf⟩
/-- How many values a procedure wants. -/
def wantS (C : Cd) : PK → Nat
  | .first k => needS k
  | .clo l _ => ((C.ls[l]?).getD ([], [], 0)).2.1.length
  | .kont _ => 1
/-- A procedure in memory. -/
def PrX (w : World) (X : Nat → Prop) (mo mf : Nat → Option Nat) (M : Nat) (C : Cd) (id : Nat) (p : PK) : Prop :=
  ∃ g z fv, mo id = some g ∧ w.heap[g]? = some (Obj.cells #[.string z, .int .i64 (wantS C p : Nat), fv] 220 (0, 0)) ∧ FnX w X mo mf M C p fv
theorem PrX.keep {w w' : World} {X X' : Nat → Prop} {mo mo' mf mf' : Nat → Option Nat} {M id : Nat} {C : Cd} {p : PK} (k : KI w w') (hm : Le mo mo') (hf : Le mf mf') (hx : ∀ b, b < w.heap.size → ¬ X b → ¬ X' b ∧ w'.heap[b]? = w.heap[b]?) (h : PrX w X mo mf M C id p) : PrX w' X' mo' mf' M C id p := by
  obtain ⟨g, z, fv, h1, h2, h3⟩ := h
  exact ⟨g, z, fv, hm _ _ h1, k _ (by decide) _ _ h2, h3.keep k hm hf hx⟩

/-- The twelve cells of a machine. -/
def mcC (b : Nat) (pc : Int) (val fr app args top out : Value) (st er de : Int) (va : ByteArray) : Array Value := #[ptrV b, .int .i64 pc, val, fr, app, args, top, out, .int .i64 st, .int .i64 er, .int .i64 de, .string va]
/-- What has joined the output, in memory. -/
def OutX (w : World) (B : Nat) (ow : Nat → Option Nat) (u : Value) (o : List (List UInt8)) : Prop := w.ownsRow B 9 1 u o.length (o.map strV) ∧ (∀ k, u.ownBlock = some k → ow k = some 0) ∧ o.length ≤ 40
def AppX (w : World) (ow mo : Nat → Option Nat) : Option (V × List V) → Value → Value → Prop
  | none, _, _ => True
  | some (p, a), x, u => VX w mo p x ∧ ∃ xs, VXs w mo a xs ∧ Rw w 81 (fun k => ow k = some 0) (fun k => ow k = some 0) u xs
/-- All that a running machine knows, but its own cells. -/
structure RS (B K : Nat) (w : World) (X : Nat → Prop) (ow mo mf : Nat → Option Nat) (M b : Nat) (C : Cd) (s : MS) (val app args out : Value) (top : Option Addr) (gf : Nat) : Prop where
  code : Code K w X b C
  val : OV w mo s.val val
  fr : mf s.fr = some gf
  app : AppX w ow mo s.app app args
  st : StX w mo mf top s.st
  out : OutX w B ow out s.out
  frs : ∀ i fr, s.frs[i]? = some fr → ∃ g pn nv vv op xs, mf i = some g ∧ FrR w X ow mo mf i fr g pn nv vv op xs
  obs : ∀ k p, s.obs[k]? = some (some p) → PrX w X mo mf M C (2 * k) p
  mlt : ∀ i g, mo i = some g → g < w.heap.size
  mdm : ∀ k g, mo (2 * k) = some g → k < s.obs.length
  mcl : ∀ k g, mo (2 * k) = some g → ∃ c T, w.heap[g]? = some (Obj.cells c T (0, 0)) ∧ MT.contains T = false
  inj : ∀ i j g, mo i = some g → mo j = some g → i = j
  mcd : Le (datM K) mo
  fdm : ∀ i g, mf i = some g → i < s.frs.length
  owx : ∀ k t, ow k = some t → X k
  xty : XTy w B X
  owM : ow M = some 0
  tab : Tab B w
  hB : B ≤ K
/-- A running machine in block M. -/
def MR (B K : Nat) (w : World) (X : Nat → Prop) (ow : Nat → Option Nat) (M b : Nat) (C : Cd) (s : MS) : Prop :=
  ∃ mo mf val app args out top gf, w.heap[M]? = some (Obj.cells (mcC b s.pc val (ptrV gf) app args (.pointer top) out 0 0 0 ⟨#[]⟩) 119 (0, 0)) ∧ RS B K w X ow mo mf M b C s val app args out top gf
end Go.Proofs.YtlobegpjenabaaaGreatDoor
