/- The machine of code, and the one over expressions: how they stand side by side. -/
import Derived.Test.YtlobegpjenabaaaGreatDoorL34
namespace Go.Proofs.YtlobegpjenabaaaGreatDoor
set_option linter.unusedSimpArgs false
set_option linter.unusedVariables false

/-- From s to s', with so many applications; to an end. -/
def Sp (C : Cd) (s : MS) (a : Nat) (s' : MS) : Prop := ∃ k, ∀ K n made, made + a ≤ n → goS C (k + K) s n made = goS C K s' n (made + a)
def Tw (C : Cd) (s : MS) (a : Nat) (r : RR) : Prop := ∃ F, ∀ n made, made + a ≤ n → goS C F s n made = some (made + a, r)
theorem Sp.refl (C : Cd) (s : MS) : Sp C s 0 s := ⟨0, fun K n made _ => by rw [Nat.zero_add, Nat.add_zero]⟩
theorem Sp.trans {C : Cd} {s s1 s2 : MS} {a b : Nat} (h : Sp C s a s1) (k : Sp C s1 b s2) : Sp C s (a + b) s2 := by
  obtain ⟨x, hx⟩ := h
  obtain ⟨y, hy⟩ := k
  refine ⟨x + y, fun K n made hl => ?_⟩
  rw [Nat.add_assoc, hx (y + K) n made (by omega), hy K n (made + a) (by omega), Nat.add_assoc]
/-- What an instruction costs. -/
def costI (op : Int) : Nat := if op = 12 then 1 else 0
theorem cost_made (op : Int) (made : Nat) : (if op = 12 then made + 1 else made) = made + costI op := by unfold costI; split <;> rfl
theorem cost_held {op : Int} {made n : Nat} (h : made + costI op ≤ n) : ¬ (op = 12 ∧ made = n) := by
  rintro ⟨h1, h2⟩
  unfold costI at h
  rw [if_pos h1] at h
  omega
theorem fetch_at {z : BS} {vs : List V} {s : MS} {p : Nat} {op n : Int} (hp : s.pc = (p : Int)) (hi : z.is[p]? = some (op, n)) : fetchS (cdOf z vs) s = some (op, n) := by
  unfold fetchS
  rw [hp, if_pos (by omega)]
  exact hi
theorem Sp.one {z : BS} {vs : List V} {s s' : MS} {p : Nat} {op n : Int} (hp : s.pc = (p : Int)) (hi : z.is[p]? = some (op, n)) (hn : 0 ≤ n) (ho : opS (cdOf z vs) { s with pc := (p : Int) + 1 } op n = .ok s') : Sp (cdOf z vs) s (costI op) s' := by
  refine ⟨1, fun K m made hl => ?_⟩
  have hs : stepS (cdOf z vs) s = .ok s' := by
    unfold stepS
    rw [fetch_at hp hi]
    simp only
    rw [if_pos hn, hp]
    exact ho
  rw [show 1 + K = K + 1 by omega, goS, fetch_at hp hi]
  simp only
  rw [if_neg (cost_held hl), hs, cost_made]
theorem Tw.err {z : BS} {vs : List V} {s : MS} {p : Nat} {op n e : Int} {d : Nat} {o : List (List UInt8)} (hp : s.pc = (p : Int)) (hi : z.is[p]? = some (op, n)) (hn : 0 ≤ n) (ho : opS (cdOf z vs) { s with pc := (p : Int) + 1 } op n = .err e d o) : Tw (cdOf z vs) s (costI op) (.err e d o) := by
  refine ⟨1, fun m made hl => ?_⟩
  have hs : stepS (cdOf z vs) s = .err e d o := by
    unfold stepS
    rw [fetch_at hp hi]
    simp only
    rw [if_pos hn, hp]
    exact ho
  rw [goS, fetch_at hp hi]
  simp only
  rw [if_neg (cost_held hl), hs, cost_made]
theorem Tw.done {z : BS} {vs : List V} {s : MS} {p : Nat} {op n : Int} {t : List UInt8} {o : List (List UInt8)} (hp : s.pc = (p : Int)) (hi : z.is[p]? = some (op, n)) (hn : 0 ≤ n) (ho : opS (cdOf z vs) { s with pc := (p : Int) + 1 } op n = .done t o) : Tw (cdOf z vs) s (costI op) (.done t o) := by
  refine ⟨1, fun m made hl => ?_⟩
  have hs : stepS (cdOf z vs) s = .done t o := by
    unfold stepS
    rw [fetch_at hp hi]
    simp only
    rw [if_pos hn, hp]
    exact ho
  rw [goS, fetch_at hp hi]
  simp only
  rw [if_neg (cost_held hl), hs, cost_made]

/-- Where the top of the stack takes its value up. -/
def JOk (J : Option Nat) (f : Nat) (st : List En) : Prop := ∀ q, J = some q → ∃ t r, st = t :: r ∧ t.nx = (q : Int) ∧ t.fr = f
/-- An entry, and what is pending; r: the stack below. -/
def EnX (z : BS) (vs : List V) (e : En) (k : XK) (r : List En) : Prop := ∃ n : Nat, e.nx = (n : Int) ∧ match k with
  | .test f b c => e.fr = f ∧ ∃ t : Nat, z.is[n]? = some (8, (t : Int)) ∧ AtX z vs b (n + 1) none ∧ AtX z vs c t none
  | .bind f s => e.fr = f ∧ ∃ (i : Nat) (J : Option Nat), z.is[n]? = some (9, (i : Int)) ∧ z.ns[i]? = some s ∧ Lnd z (n + 1) J ∧ JOk J f r
  | .change f s => e.fr = f ∧ ∃ (i : Nat) (J : Option Nat), z.is[n]? = some (10, (i : Int)) ∧ z.ns[i]? = some s ∧ Lnd z (n + 1) J ∧ JOk J f r
  | .rest f es => e.fr = f ∧ ∃ J : Option Nat, SeqX z vs es 6 n J ∧ JOk J f r
  | .args f es got => e.fr = f ∧ e.got = got ∧ got.length ≤ n ∧ ApX z vs es 5 n
def StkX (z : BS) (vs : List V) : List En → List XK → List X → Prop
  | st, [], fs => ∃ e, st = [e] ∧ e.fr = 0 ∧ ∃ n : Nat, e.nx = (n : Int) ∧ FormsX z vs fs n
  | st, k :: ch, fs => ∃ e r, st = e :: r ∧ EnX z vs e k r ∧ StkX z vs r ch fs
theorem StkX.top {z : BS} {vs : List V} : ∀ {st : List En} {ch : List XK} {fs : List X}, StkX z vs st ch fs → ∃ t r, st = t :: r ∧ r.length = ch.length
  | st, [], fs, ⟨e, h, _⟩ => ⟨e, [], h, rfl⟩
  | st, k :: ch, fs, ⟨e, r, h, _, h2⟩ => by
    obtain ⟨t, r', h1, h2⟩ := StkX.top h2
    exact ⟨e, r, h, by rw [h1]; simp [h2]⟩
/-- What is pending is as it should be; nf: how many frames there are. -/
def KOk (O : List (Option XP)) (nf : Nat) : XK → Prop
  | .test f _ _ => f < nf
  | .bind f _ => f < nf
  | .change f _ => f < nf
  | .rest f _ => f < nf
  | .args f _ got => f < nf ∧ ∀ v ∈ got, VOk O v
def ChOk (O : List (Option XP)) (nf : Nat) (ch : List XK) : Prop := ch.length ≤ 200 ∧ ∀ k ∈ ch, KOk O nf k
theorem KOk.more {O : List (Option XP)} {nf nf' : Nat} {k : XK} (h : KOk O nf k) (hn : nf ≤ nf') : KOk O nf' k := by
  cases k <;> simp only [KOk] at h ⊢ <;> first | exact Nat.lt_of_lt_of_le h hn | exact ⟨Nat.lt_of_lt_of_le h.1 hn, h.2⟩
theorem KOk.snoc {O : List (Option XP)} {nf : Nat} {k : XK} (x : Option XP) (h : KOk O nf k) : KOk (O ++ [x]) nf k := by
  cases k <;> simp only [KOk] at h ⊢ <;> first | exact h | exact ⟨h.1, fun v hv => (h.2 v hv).snoc x⟩
theorem ChOk.more {O : List (Option XP)} {nf nf' : Nat} {ch : List XK} (h : ChOk O nf ch) (hn : nf ≤ nf') : ChOk O nf' ch := ⟨h.1, fun k hk => (h.2 k hk).more hn⟩
theorem ChOk.snoc {O : List (Option XP)} {nf : Nat} {ch : List XK} (x : Option XP) (h : ChOk O nf ch) : ChOk (O ++ [x]) nf ch := ⟨h.1, fun k hk => (h.2 k hk).snoc x⟩
theorem ChOk.tail {O : List (Option XP)} {nf : Nat} {k : XK} {ch : List XK} (h : ChOk O nf (k :: ch)) : ChOk O nf ch := ⟨by have := h.1; simp at this; omega, fun q hq => h.2 q (by simp [hq])⟩
theorem ChOk.cons {O : List (Option XP)} {nf : Nat} {k : XK} {ch : List XK} (h : ChOk O nf ch) (hl : ch.length < 200) (hk : KOk O nf k) : ChOk O nf (k :: ch) := ⟨by simp; omega, fun q hq => by
  rcases List.mem_cons.1 hq with e | e
  · subst e; exact hk
  · exact h.2 q e⟩
/-- A procedure of both. -/
def PX (z : BS) (vs : List V) (O : List (Option XP)) (nf : Nat) : PK → XP → Prop
  | .first k, .first k' => k = k' ∧ k < 14
  | .clo l f, .clo xs a f' => f = f' ∧ f < nf ∧ ∃ (nm : List UInt8) (ns : List Nat) (e : Nat), z.ls[l]? = some (nm, ns, e) ∧ NumR z ns xs ∧ xs.Nodup ∧ AtX z vs a e none
  | .kont st, .kont ch fs => StkX z vs st ch fs ∧ ChOk O nf ch
  | _, _ => False
theorem PX.more {z : BS} {vs : List V} {O : List (Option XP)} {nf nf' : Nat} (hn : nf ≤ nf') : ∀ {p : PK} {q : XP}, PX z vs O nf p q → PX z vs O nf' p q
  | .first _, .first _, h => h
  | .clo _ _, .clo _ _ _, h => ⟨h.1, Nat.lt_of_lt_of_le h.2.1 hn, h.2.2⟩
  | .kont _, .kont _ _, h => ⟨h.1, h.2.more hn⟩
  | .first _, .clo _ _ _, h => h.elim
  | .first _, .kont _ _, h => h.elim
  | .clo _ _, .first _, h => h.elim
  | .clo _ _, .kont _ _, h => h.elim
  | .kont _, .first _, h => h.elim
  | .kont _, .clo _ _ _, h => h.elim
theorem PX.snoc {z : BS} {vs : List V} {O : List (Option XP)} {nf : Nat} (x : Option XP) : ∀ {p : PK} {q : XP}, PX z vs O nf p q → PX z vs (O ++ [x]) nf p q
  | .first _, .first _, h => h
  | .clo _ _, .clo _ _ _, h => h
  | .kont _, .kont _ _, h => ⟨h.1, h.2.snoc x⟩
  | .first _, .clo _ _ _, h => h.elim
  | .first _, .kont _ _, h => h.elim
  | .clo _ _, .first _, h => h.elim
  | .clo _ _, .kont _ _, h => h.elim
  | .kont _, .first _, h => h.elim
  | .kont _, .clo _ _ _, h => h.elim
def OX (z : BS) (vs : List V) (O : List (Option XP)) (nf : Nat) : Option PK → Option XP → Prop
  | none, none => True
  | some p, some q => PX z vs O nf p q
  | _, _ => False
theorem OX.more {z : BS} {vs : List V} {O : List (Option XP)} {nf nf' : Nat} (hn : nf ≤ nf') : ∀ {p : Option PK} {q : Option XP}, OX z vs O nf p q → OX z vs O nf' p q
  | none, none, _ => trivial
  | some _, some _, h => PX.more hn h
  | none, some _, h => h.elim
  | some _, none, h => h.elim
theorem OX.snoc {z : BS} {vs : List V} {O : List (Option XP)} {nf : Nat} (x : Option XP) : ∀ {p : Option PK} {q : Option XP}, OX z vs O nf p q → OX z vs (O ++ [x]) nf p q
  | none, none, _ => trivial
  | some _, some _, h => PX.snoc x h
  | none, some _, h => h.elim
  | some _, none, h => h.elim
/-- Procedures side by side. -/
structure ObX (z : BS) (vs : List V) (O : List (Option XP)) (nf : Nat) (l : List (Option PK)) : Prop where
  len : l.length = O.length
  at' : ∀ (i : Nat) p q, l[i]? = some p → O[i]? = some q → OX z vs O nf p q
theorem ObX.more {z : BS} {vs : List V} {O : List (Option XP)} {nf nf' : Nat} {l : List (Option PK)} (h : ObX z vs O nf l) (hn : nf ≤ nf') : ObX z vs O nf' l := ⟨h.len, fun i p q h1 h2 => (h.at' i p q h1 h2).more hn⟩
theorem ObX.add {z : BS} {vs : List V} {O : List (Option XP)} {nf : Nat} {l : List (Option PK)} (h : ObX z vs O nf l) {p : Option PK} {q : Option XP} (hp : OX z vs O nf p q) : ObX z vs (O ++ [q]) nf (l ++ [p]) := by
  refine ⟨by simp [h.len], fun i a b h1 h2 => ?_⟩
  rcases Nat.lt_or_ge i l.length with hj | hj
  · rw [List.getElem?_append_left hj] at h1
    rw [List.getElem?_append_left (by rw [← h.len]; exact hj)] at h2
    exact (h.at' i a b h1 h2).snoc q
  · rw [List.getElem?_append_right hj] at h1
    rw [List.getElem?_append_right (by rw [← h.len]; exact hj), ← h.len] at h2
    have : i - l.length = 0 := by
      have := get_lt h1
      simp at this; omega
    rw [this] at h1 h2
    cases h1; cases h2; exact hp.snoc q
/-- What both have, wherever they are. -/
structure Cm (z : BS) (vs : List V) (s : MS) (x : XS) : Prop where
  out : s.out = x.out
  f0 : 0 < x.frs.length
  fr : FrsX z x.obs s.frs x.frs
  ob : ObX z vs x.obs x.frs.length s.obs
  ch : ChOk x.obs x.frs.length x.ch
def MdX (z : BS) (vs : List V) (s : MS) (x : XS) : XM → Prop
  | .next => s.fr = 0 ∧ s.val = x.last ∧ ∃ p : Nat, s.pc = (p : Int) ∧ FormsX z vs x.fs p
  | .ev e => s.fr = x.fr ∧ x.fr < x.frs.length ∧ StkX z vs s.st x.ch x.fs ∧ ∃ (p : Nat) (J : Option Nat), s.pc = (p : Int) ∧ AtX z vs e p J ∧ JOk J x.fr s.st
  | .back v => s.val = some v ∧ VOk x.obs v ∧ StkX z vs s.st x.ch x.fs ∧ ∃ t r, s.st = t :: r ∧ s.pc = t.nx ∧ s.fr = t.fr
  | .app q a => s.app = some (q, a) ∧ VOk x.obs q ∧ (∀ v ∈ a, VOk x.obs v) ∧ StkX z vs s.st x.ch x.fs ∧ ∃ p : Nat, s.pc = (p : Int) ∧ z.is[p]? = some (12, 0)
/-- The two machines stand side by side. -/
structure Rel (z : BS) (vs : List V) (s : MS) (x : XS) : Prop where
  cm : Cm z vs s x
  md : MdX z vs s x x.md
/-- What a step comes to. -/
def SimR (z : BS) (vs : List V) (s : MS) (a : Nat) : XR → Prop
  | .ok x' => ∃ s', Sp (cdOf z vs) s a s' ∧ Rel z vs s' x'
  | .err e d o => Tw (cdOf z vs) s a (.err e d o)
  | .done t o => Tw (cdOf z vs) s a (.done t o)
  | .bad => False
theorem SimR.after {z : BS} {vs : List V} {s s1 : MS} {a b : Nat} (h : Sp (cdOf z vs) s a s1) : ∀ {r : XR}, SimR z vs s1 b r → SimR z vs s (a + b) r
  | .ok x', ⟨s', h1, h2⟩ => ⟨s', h.trans h1, h2⟩
  | .err e d o, ⟨F, hF⟩ => by
    obtain ⟨k, hk⟩ := h
    exact ⟨k + F, fun n made hl => by rw [hk F n made (by omega), hF n (made + a) (by omega), Nat.add_assoc]⟩
  | .done t o, ⟨F, hF⟩ => by
    obtain ⟨k, hk⟩ := h
    exact ⟨k + F, fun n made hl => by rw [hk F n made (by omega), hF n (made + a) (by omega), Nat.add_assoc]⟩
  | .bad, h => h.elim
/-- A value is there, and goes back. -/
theorem to_back {z : BS} {vs : List V} {s : MS} {x : XS} {v : V} {p : Nat} {J : Option Nat} (hc : Cm z vs s x) (hs : StkX z vs s.st x.ch x.fs) (hv : s.val = some v) (hok : VOk x.obs v) (hm : x.md = .back v) (hp : s.pc = (p : Int)) (hl : Lnd z p J) (hj : JOk J s.fr s.st) : ∃ s', Sp (cdOf z vs) s 0 s' ∧ Rel z vs s' x := by
  obtain ⟨t, r, ht, _⟩ := hs.top
  cases J with
  | some q =>
    obtain ⟨t', r', e1, e2, e3⟩ := hj q rfl
    have hq : p = q := hl
    refine ⟨s, Sp.refl _ _, hc, ?_⟩
    rw [hm]
    exact ⟨hv, hok, hs, t', r', e1, by rw [hp, e2, hq], e3.symm⟩
  | none =>
    refine ⟨{ s with pc := t.nx, fr := t.fr }, ?_, ⟨hc.out, hc.f0, hc.fr, hc.ob, hc.ch⟩, ?_⟩
    · exact Sp.one (op := 13) (n := 0) hp hl (by omega) (by simp only [opS, ht])
    · rw [hm]
      exact ⟨hv, hok, hs, t, r, ht, rfl, rfl⟩
/-- Something more is pending. -/
theorem sim_pend {z : BS} {vs : List V} {s : MS} {x : XS} {k : XK} {e : X} {p r : Nat} (hc : Cm z vs s x) (hs : StkX z vs s.st x.ch x.fs) (hf : s.fr = x.fr) (hfl : x.fr < x.frs.length) (hp : s.pc = (p : Int)) (hi : z.is[p]? = some (4, (r : Int))) (ha : AtX z vs e (p + 1) (some r)) (he : EnX z vs ⟨s.fr, (r : Int), []⟩ k s.st) (hk : KOk x.obs x.frs.length k) : SimR z vs s 0 (pendX x k e) := by
  obtain ⟨t, r0, ht, hl⟩ := hs.top
  have hst : s.st.length = x.ch.length + 1 := by rw [ht]; simp [hl]
  have h200 := hc.ch.1
  unfold pendX errX
  split
  · rename_i h
    refine Tw.err (op := 4) hp hi (by omega) ?_
    simp only [opS]
    rw [if_pos (by omega)]
    unfold errS
    simp only [ht, hl, hc.out]
  · rename_i h
    refine ⟨{ s with pc := (p : Int) + 1, st := ⟨s.fr, (r : Int), []⟩ :: s.st }, ?_, ⟨hc.out, hc.f0, hc.fr, hc.ob, hc.ch.cons (by omega) hk⟩, ?_⟩
    · refine Sp.one (op := 4) hp hi (by omega) ?_
      simp only [opS]
      rw [if_neg (by omega), if_neg (by omega)]
    · refine ⟨hf, hfl, ⟨_, _, rfl, he, hs⟩, p + 1, some r, by simp, ha, fun q hq => ?_⟩
      cases hq
      exact ⟨_, _, rfl, rfl, hf⟩
end Go.Proofs.YtlobegpjenabaaaGreatDoor

/- The machine of code, and the one over expressions: each step. -/
namespace Go.Proofs.YtlobegpjenabaaaGreatDoor
set_option linter.unusedSimpArgs false
set_option linter.unusedVariables false

theorem lt_is {z : BS} {p : Nat} {q : Int × Int} (h : z.is[p]? = some q) : p < z.is.length := get_lt h
theorem SimR.after0 {z : BS} {vs : List V} {s s1 : MS} (h : Sp (cdOf z vs) s 0 s1) {r : XR} (k : SimR z vs s1 0 r) : SimR z vs s 0 r := SimR.after h k
/-- Into an expression. -/
theorem sim_ev {z : BS} {vs : List V} {s : MS} {x : XS} (hz : InvB z) (e : X) (h : Rel z vs s x) (hm : x.md = .ev e) : SimR z vs s 0 (evX x e) := by
  obtain ⟨hc, hd⟩ := h
  rw [hm] at hd
  obtain ⟨hf, hfl, hs, p, J, hp, ha, hj⟩ := hd
  cases e with
  | const v =>
    simp only [AtX] at ha
    obtain ⟨⟨n, h1, h2, h3⟩, h4⟩ := ha
    have st := Sp.one (vs := vs) (s := s) (s' := { s with pc := (p : Int) + 1, val := some v }) (op := 1) hp h1 (by omega) (by
      have : (cdOf z vs).cs[((n : Nat) : Int).toNat]? = some v := h2
      simp only [opS, this])
    refine SimR.after0 st ?_
    exact to_back (x := { x with md := .back v }) (p := p + 1) ⟨hc.out, hc.f0, hc.fr, hc.ob, hc.ch⟩ hs rfl h3.ok rfl (by simp) h4 (by rw [show (({ s with pc := (p : Int) + 1, val := some v } : MS)).fr = x.fr from hf]; exact hj)
  | var nm =>
    simp only [AtX] at ha
    obtain ⟨⟨n, h1, h2⟩, h4⟩ := ha
    simp only [evX]
    obtain ⟨t, r0, ht, hl⟩ := hs.top
    rcases hc.fr.find h2 (x.fr + 1) x.fr with ⟨q1, q2⟩ | ⟨q, j, m, fr, xf, v, q1, q2, q3, q4, q5, q6, q7, q8, q9⟩
    · rw [q2]
      refine Tw.err (op := 2) hp h1 (by omega) ?_
      simp only [opS, hf, q1, errS, ht, hl, hc.out]
    · rw [q2]
      simp only [q4, q9]
      have st := Sp.one (vs := vs) (s := s) (s' := { s with pc := (p : Int) + 1, val := some v }) (op := 2) hp h1 (by omega) (by simp only [opS, hf, q1, q3, q8])
      refine SimR.after0 st ?_
      exact to_back (x := { x with md := .back v }) (p := p + 1) ⟨hc.out, hc.f0, hc.fr, hc.ob, hc.ch⟩ hs rfl (q5.ok v (List.mem_of_getElem? q9)) rfl (by simp) h4 (by rw [show (({ s with pc := (p : Int) + 1, val := some v } : MS)).fr = x.fr from hf]; exact hj)
  | ite a b c =>
    simp only [AtX] at ha
    obtain ⟨r, t, h0, h1, h2, h3, h4, h5⟩ := ha
    exact sim_pend hc hs hf hfl hp h1 h2 ⟨r, rfl, hf, t, h3, h4, h5⟩ hfl
  | define nm a =>
    simp only [AtX] at ha
    obtain ⟨r, n, h0, h1, h2, h3, h4, h5⟩ := ha
    exact sim_pend hc hs hf hfl hp h1 h2 ⟨r, rfl, hf, n, J, h3, h4, h5, hj⟩ hfl
  | set nm a =>
    simp only [AtX] at ha
    obtain ⟨r, n, h0, h1, h2, h3, h4, h5⟩ := ha
    exact sim_pend hc hs hf hfl hp h1 h2 ⟨r, rfl, hf, n, J, h3, h4, h5, hj⟩ hfl
  | lambda xs a =>
    simp only [AtX] at ha
    obtain ⟨⟨l, nm, ns, e, h1, h2, h3, h3', h3''⟩, h4⟩ := ha
    have hl := hc.ob.len
    have st := Sp.one (vs := vs) (s := s) (s' := { s with pc := (p : Int) + 1, val := some (.proc (2 * s.obs.length)), obs := s.obs ++ [some (.clo l s.fr)] }) (op := 3) hp h1 (by omega) (by
      have : l < (cdOf z vs).ls.length := get_lt h2
      simp only [opS, Int.toNat_natCast]
      rw [if_pos this])
    refine SimR.after0 st ?_
    refine to_back (x := { x with md := .back (.proc (2 * x.obs.length)), obs := x.obs ++ [some (.clo xs a x.fr)] }) (v := .proc (2 * x.obs.length)) (p := p + 1) ⟨hc.out, hc.f0, hc.fr.snoc _, ?_, hc.ch.snoc _⟩ hs (by simp only [hl]) ⟨by omega, _, by rw [show 2 * x.obs.length / 2 = x.obs.length by omega]; simp; rfl⟩ rfl (by simp) h4 (by show JOk J s.fr s.st; rw [hf]; exact hj)
    exact hc.ob.add (p := some (.clo l s.fr)) ⟨hf, by rw [hf]; exact hfl, nm, ns, e, h2, h3, h3', h3''⟩
  | seq es =>
    simp only [AtX] at ha
    obtain ⟨h0, h1⟩ := ha
    match es, h0, h1 with
    | e :: e2 :: r, _, h1 =>
      rw [SeqX] at h1
      · obtain ⟨t, k0, k1, k2, k3⟩ := h1
        exact sim_pend hc hs hf hfl hp k1 k2 ⟨t, rfl, hf, J, k3, hj⟩ hfl
      · simp
  | apply es =>
    simp only [AtX] at ha
    obtain ⟨h0, h1⟩ := ha
    match es, h0, h1 with
    | e :: r, _, h1 =>
      simp only [ApX] at h1
      obtain ⟨t, k0, k1, k2, k3⟩ := h1
      exact sim_pend hc hs hf hfl hp k1 k2 ⟨t, rfl, hf, rfl, Nat.zero_le _, k3⟩ ⟨hfl, fun v hv => by simp at hv⟩
/-- A value goes back to what was pending. -/
theorem sim_give {z : BS} {vs : List V} {s : MS} {x : XS} {v : V} {k : XK} {ch : List XK} (hz : InvB z) (hn : z.is.length ≤ 1000000 ∧ z.ns.length < 1000000) (h : Rel z vs s x) (hm : x.md = .back v) (hch : x.ch = k :: ch) : SimR z vs s 0 (giveX { x with ch := ch } v k) := by
  obtain ⟨hc, hd⟩ := h
  rw [hm] at hd
  obtain ⟨hv, hok, hs, t0, r0, ht, hp, hf⟩ := hd
  rw [hch] at hs
  obtain ⟨e, r, he, hen, hs⟩ := hs
  rw [ht] at he; cases he
  obtain ⟨n, hnx, hk⟩ := hen
  rw [hnx] at hp
  have hch' := hc.ch
  rw [hch] at hch'
  have hct := hch'.tail
  have hko := hch'.2 k (by simp)
  have hcl : ch.length < 200 := by have := hch'.1; simp at this; omega
  obtain ⟨t1, r1, ht1, hl1⟩ := hs.top
  cases k with
  | test f b c =>
    obtain ⟨k1, t, k2, k3, k4⟩ := hk
    refine ⟨{ s with st := r0, pc := if sameV v (.bool false) then (t : Int) else (n : Int) + 1 }, ?_, ⟨hc.out, hc.f0, hc.fr, hc.ob, hct⟩, ?_⟩
    · exact Sp.one (op := 8) hp k2 (by omega) (by simp only [opS, ht, hv])
    · refine ⟨hf.trans k1, hko, hs, ?_⟩
      cases hsv : sameV v (.bool false) with
      | true => exact ⟨t, none, rfl, k4, fun q hq => by cases hq⟩
      | false => exact ⟨n + 1, none, by simp, k3, fun q hq => by cases hq⟩
  | bind f nm =>
    obtain ⟨k1, i, J, k2, k3, k4, k5⟩ := hk
    have hff : s.fr = f := hf.trans k1
    have hko : f < x.frs.length := hko
    obtain ⟨fr, xf, g1, g2, g3⟩ := hc.fr.get hko
    simp only [giveX, g2]
    have hle := g3.len
    have st := Sp.one (vs := vs) (s := s) (s' := { s with pc := (n : Int) + 1, st := r0, val := some .nothing, frs := s.frs.set f (fr.define i v) }) (op := 9) hp k2 (by omega) (by
      simp only [opS, ht, hv, hff, g1]
      rw [if_pos (by omega)])
    refine SimR.after0 st ?_
    exact to_back (x := { x with ch := ch, md := .back .nothing, frs := x.frs.set f (xf.define nm v) }) (v := .nothing) (p := n + 1) ⟨hc.out, by simp only [List.length_set]; exact hc.f0, hc.fr.set f (g3.define hz.nd k3 hok), by simp only [List.length_set]; exact hc.ob, by simp only [List.length_set]; exact hct⟩ hs rfl trivial rfl (by simp) k4 (by show JOk J s.fr r0; rw [hff]; exact k5)
  | change f nm =>
    obtain ⟨k1, i, J, k2, k3, k4, k5⟩ := hk
    have hff : s.fr = f := hf.trans k1
    simp only [giveX]
    rcases hc.fr.find k3 (f + 1) f with ⟨q1, q2⟩ | ⟨q, j, m, fr, xf, u, q1, q2, q3, q4, q5, q6, q7, q8, q9⟩
    · rw [q2]
      refine Tw.err (op := 10) hp k2 (by omega) ?_
      simp only [opS, ht, hv, hff, q1, errS, ht1, hl1, hc.out]
    · rw [q2]
      simp only [q4]
      have st := Sp.one (vs := vs) (s := s) (s' := { s with pc := (n : Int) + 1, st := r0, val := some .nothing, frs := s.frs.set q (fr.put j v) }) (op := 10) hp k2 (by omega) (by simp only [opS, ht, hv, hff, q1, q3])
      refine SimR.after0 st ?_
      exact to_back (x := { x with ch := ch, md := .back .nothing, frs := x.frs.set q (xf.put m v) }) (v := .nothing) (p := n + 1) ⟨hc.out, by simp only [List.length_set]; exact hc.f0, hc.fr.set q (q5.put hz.nd k3 q6 q7 hok), by simp only [List.length_set]; exact hc.ob, by simp only [List.length_set]; exact hct⟩ hs rfl trivial rfl (by simp) k4 (by show JOk J s.fr r0; rw [hff]; exact k5)
  | rest f es =>
    obtain ⟨k1, J, k2, k3⟩ := hk
    match es, k2 with
    | [], k2 => simp [SeqX] at k2
    | [e], k2 =>
      simp only [SeqX] at k2
      refine ⟨{ s with pc := (n : Int) + 1, st := r0 }, ?_, ⟨hc.out, hc.f0, hc.fr, hc.ob, hct⟩, ?_⟩
      · exact Sp.one (op := 7) hp k2.1 (by omega) (by simp only [opS, ht])
      · exact ⟨hf.trans k1, hko, hs, n + 1, J, by simp, k2.2, k3⟩
    | e :: e2 :: es, k2 =>
      rw [SeqX] at k2
      · obtain ⟨t, j0, j1, j2, j3⟩ := k2
        refine ⟨{ s with pc := (n : Int) + 1, st := ⟨t0.fr, (t : Int), t0.got⟩ :: r0 }, ?_, ⟨hc.out, hc.f0, hc.fr, hc.ob, hct.cons hcl hko⟩, ?_⟩
        · exact Sp.one (op := 6) hp j1 (by omega) (by simp only [opS, ht])
        · exact ⟨hf.trans k1, hko, ⟨_, _, rfl, ⟨t, rfl, k1, J, j3, k3⟩, hs⟩, n + 1, some t, by simp, j2, fun q hq => by cases hq; exact ⟨_, _, rfl, rfl, k1⟩⟩
      · simp
  | args f es got =>
    obtain ⟨k1, k2, k3, k4⟩ := hk
    match es, k4 with
    | [], k4 =>
      simp only [ApX] at k4
      simp only [giveX]
      cases hr : (v :: got).reverse with
      | nil => simp at hr
      | cons q a =>
        have hall : ∀ u ∈ q :: a, VOk x.obs u := fun u hu => by
          rw [← hr, List.mem_reverse] at hu
          rcases List.mem_cons.1 hu with e | e
          · subst e; exact hok
          · exact hko.2 u e
        refine ⟨{ s with pc := (n : Int) + 1, app := some (q, a), st := r0 }, ?_, ⟨hc.out, hc.f0, hc.fr, hc.ob, hct⟩, ?_⟩
        · exact Sp.one (op := 11) hp k4.1 (by omega) (by simp only [opS, ht, hv, k2, hr])
        · exact ⟨rfl, hall q (by simp), fun u hu => hall u (by simp [hu]), hs, n + 1, by simp, k4.2⟩
    | e :: es, k4 =>
      simp only [ApX] at k4
      obtain ⟨t, j0, j1, j2, j3⟩ := k4
      have hni := lt_is j1
      refine ⟨{ s with pc := (n : Int) + 1, st := ⟨t0.fr, (t : Int), v :: t0.got⟩ :: r0 }, ?_, ⟨hc.out, hc.f0, hc.fr, hc.ob, hct.cons hcl ⟨hko.1, fun u hu => ?_⟩⟩, ?_⟩
      · exact Sp.one (op := 5) hp j1 (by omega) (by simp only [opS, ht, hv]; rw [if_pos (by rw [k2]; omega)])
      · rcases List.mem_cons.1 hu with e | e
        · subst e; exact hok
        · exact hko.2 u e
      · exact ⟨hf.trans k1, hko.1, ⟨_, _, rfl, ⟨t, rfl, k1, by rw [k2], by simp; omega, j3⟩, hs⟩, n + 1, some t, by simp, j2, fun q hq => by cases hq; exact ⟨_, _, rfl, rfl, k1⟩⟩
end Go.Proofs.YtlobegpjenabaaaGreatDoor

/- The machine of code, and the one over expressions: applications; whole runs. -/
namespace Go.Proofs.YtlobegpjenabaaaGreatDoor
set_option linter.unusedSimpArgs false
set_option linter.unusedVariables false

/-- What an application comes to, of both. -/
def SRX (z : BS) (vs : List V) : SR → XR → Prop
  | .ok s', .ok x' => Rel z vs s' x'
  | .err e d o, .err e' d' o' => e = e' ∧ d = d' ∧ o = o'
  | _, _ => False
theorem sim_sr {z : BS} {vs : List V} {s : MS} {p : Nat} (hp : s.pc = (p : Int)) (hi : z.is[p]? = some (12, 0)) : ∀ {r : XR}, SRX z vs (applyS (cdOf z vs) { s with pc := (p : Int) + 1 }) r → SimR z vs s 1 r := by
  intro r h
  cases hr : applyS (cdOf z vs) { s with pc := (p : Int) + 1 } with
  | ok s' =>
    rw [hr] at h
    cases r with
    | ok x' => exact ⟨s', Sp.one (op := 12) hp hi (by omega) (by simp only [opS, hr]), h⟩
    | err _ _ _ => exact h.elim
    | done _ _ => exact h.elim
    | bad => exact h.elim
  | err e d o =>
    rw [hr] at h
    cases r with
    | ok x' => exact h.elim
    | err e' d' o' =>
      obtain ⟨rfl, rfl, rfl⟩ := h
      exact Tw.err (op := 12) hp hi (by omega) (by simp only [opS, hr])
    | done _ _ => exact h.elim
    | bad => exact h.elim
  | done t o => rw [hr] at h; cases r <;> exact h.elim
  | bad => rw [hr] at h; cases r <;> exact h.elim
theorem give_x {z : BS} {vs : List V} {s : MS} {x : XS} {v : V} (hc : Cm z vs s x) (hs : StkX z vs s.st x.ch x.fs) (hv : VOk x.obs v) : SRX z vs (giveS s v) (backX x v) := by
  obtain ⟨t, r, ht, hl⟩ := hs.top
  unfold giveS backX
  rw [ht]
  exact ⟨⟨hc.out, hc.f0, hc.fr, hc.ob, hc.ch⟩, rfl, hv, by simpa only [ht] using hs, t, r, rfl, rfl, rfl⟩
theorem err_x {z : BS} {vs : List V} {s : MS} {x : XS} {e : Int} (hc : Cm z vs s x) (hs : StkX z vs s.st x.ch x.fs) : SRX z vs (errS s e) (errX x e) := by
  obtain ⟨t, r, ht, hl⟩ := hs.top
  unfold errS errX
  rw [ht]
  exact ⟨rfl, hl, hc.out⟩
theorem ints_x {z : BS} {vs : List V} {s : MS} {x : XS} (f : Int → Int → V) (hf : ∀ a b, VOk x.obs (f a b)) (hc : Cm z vs s x) (hs : StkX z vs s.st x.ch x.fs) (u v : V) : SRX z vs (intsS s f u v) (intsX x f u v) := by
  cases u <;> cases v <;> first | exact give_x hc hs (hf _ _) | exact err_x hc hs
theorem two_of' {α : Type} {l : List α} (h : l.length = 2) : ∃ a b, l = [a, b] := by
  match l, h with
  | [a, b], _ => exact ⟨a, b, rfl⟩
theorem one_of' {α : Type} {l : List α} (h : l.length = 1) : ∃ a, l = [a] := by
  match l, h with
  | [a], _ => exact ⟨a, rfl⟩
/-- One of the first procedures. -/
theorem first_x {z : BS} {vs : List V} {s : MS} {x : XS} {a : List V} {p : Nat} (hc : Cm z vs s x) (hs : StkX z vs s.st x.ch x.fs) (ha : ∀ v ∈ a, VOk x.obs v) (hp : s.pc = (p : Int) + 1) (hi : z.is[p]? = some (12, 0)) : ∀ (k : Nat), k < 14 → a.length = needS k → SRX z vs (firstS (cdOf z vs) s k a) (firstX x k a)
  | 0, _, hl => by obtain ⟨u, v, rfl⟩ := two_of' hl; refine ints_x _ (fun _ _ => ?_) hc hs u v; exact trivial
  | 1, _, hl => by obtain ⟨u, v, rfl⟩ := two_of' hl; refine ints_x _ (fun _ _ => ?_) hc hs u v; exact trivial
  | 2, _, hl => by obtain ⟨u, v, rfl⟩ := two_of' hl; refine ints_x _ (fun _ _ => ?_) hc hs u v; exact trivial
  | 3, _, hl => by obtain ⟨u, v, rfl⟩ := two_of' hl; refine ints_x _ (fun _ _ => ?_) hc hs u v; exact trivial
  | 4, _, hl => by obtain ⟨u, v, rfl⟩ := two_of' hl; refine ints_x _ (fun _ _ => ?_) hc hs u v; exact trivial
  | 5, _, hl => by
    obtain ⟨u, v, rfl⟩ := two_of' hl
    have hle := hc.ob.len
    show SRX z vs (giveS { s with obs := s.obs ++ [none] } (.pair (2 * s.obs.length) u v)) (backX { x with obs := x.obs ++ [none] } (.pair (2 * x.obs.length) u v))
    rw [hle]
    exact give_x (x := { x with obs := x.obs ++ [none] }) ⟨hc.out, hc.f0, hc.fr.snoc _, hc.ob.add (p := none) (q := none) trivial, hc.ch.snoc _⟩ hs ⟨(ha u (by simp)).snoc _, (ha v (by simp)).snoc _⟩
  | 6, _, hl => by
    obtain ⟨u, rfl⟩ := one_of' hl
    have h := ha u (by simp)
    cases u <;> first | exact err_x hc hs | exact give_x hc hs h.1
  | 7, _, hl => by
    obtain ⟨u, rfl⟩ := one_of' hl
    have h := ha u (by simp)
    cases u <;> first | exact err_x hc hs | exact give_x hc hs h.2
  | 8, _, hl => by obtain ⟨u, rfl⟩ := one_of' hl; exact give_x hc hs trivial
  | 9, _, hl => by
    obtain ⟨u, rfl⟩ := one_of' hl
    cases u <;> exact give_x hc hs trivial
  | 10, _, hl => by obtain ⟨u, rfl⟩ := one_of' hl; exact give_x hc hs trivial
  | 11, _, hl => by obtain ⟨u, v, rfl⟩ := two_of' hl; exact give_x hc hs trivial
  | 12, _, hl => by
    obtain ⟨u, rfl⟩ := one_of' hl
    simp only [firstS, firstX, hc.out]
    split
    · exact err_x hc hs
    · exact give_x (s := { s with out := x.out ++ [(toldS u).take 100] }) (x := { x with out := x.out ++ [(toldS u).take 100] }) ⟨rfl, hc.f0, hc.fr, hc.ob, hc.ch⟩ hs trivial
  | 13, _, hl => by
    obtain ⟨u, rfl⟩ := one_of' hl
    have hle := hc.ob.len
    simp only [firstS, firstX]
    refine ⟨⟨hc.out, hc.f0, hc.fr.snoc _, hc.ob.add (p := some (.kont s.st)) ⟨hs, hc.ch⟩, hc.ch.snoc _⟩, by simp only [hle], (ha u (by simp)).snoc _, fun v hv => ?_, hs, p, by simp only [hp]; omega, hi⟩
    simp only [List.mem_singleton] at hv
    subst hv
    exact ⟨by omega, _, by rw [show 2 * x.obs.length / 2 = x.obs.length by omega]; simp; rfl⟩
  | k + 14, h, _ => by omega
theorem do_x {z : BS} {vs : List V} {s : MS} {x : XS} {a : List V} {p : Nat} (hz : InvB z) (hc : Cm z vs s x) (hs : StkX z vs s.st x.ch x.fs) (ha : ∀ v ∈ a, VOk x.obs v) (hp : s.pc = (p : Int) + 1) (hi : z.is[p]? = some (12, 0)) : ∀ (k : PK) (q : XP), PX z vs x.obs x.frs.length k q → SRX z vs (doS (cdOf z vs) s a k) (doX x a q)
  | .first k, .first k', ⟨h1, h2⟩ => by
    subst h1
    unfold doS doX
    simp only
    split
    · exact first_x hc hs ha hp hi k h2 (by assumption)
    · exact err_x hc hs
  | .clo l f, .clo xs b f', ⟨h1, h2, nm, ns, e, h3, h4, h5, h6⟩ => by
    subst h1
    unfold doS doX
    have : (cdOf z vs).ls[l]? = some (nm, ns, e) := h3
    simp only [this, h4.length]
    split
    · rename_i hl
      refine ⟨⟨hc.out, by simp, hc.fr.add (FrX.new hz.nd h4 h5 hl ha), by simp only [List.length_append, List.length_singleton]; exact hc.ob.more (by omega), by simp only [List.length_append, List.length_singleton]; exact hc.ch.more (by omega)⟩, hc.fr.len, by simp, hs, e, none, rfl, h6, fun q hq => by cases hq⟩
    · exact err_x hc hs
  | .kont st, .kont ch fs, ⟨h1, h2⟩ => by
    obtain ⟨t, r, ht, hl⟩ := h1.top
    unfold doS doX
    match a, ha with
    | [], _ => exact err_x hc hs
    | [v], ha =>
      simp only [giveS, ht]
      refine ⟨⟨hc.out, hc.f0, hc.fr, hc.ob, h2⟩, rfl, ha v (by simp), by rw [← ht]; exact h1, t, r, rfl, rfl, rfl⟩
    | _ :: _ :: _, _ => exact err_x hc hs
  | .first _, .clo _ _ _, h => h.elim
  | .first _, .kont _ _, h => h.elim
  | .clo _ _, .first _, h => h.elim
  | .clo _ _, .kont _ _, h => h.elim
  | .kont _, .first _, h => h.elim
  | .kont _, .clo _ _ _, h => h.elim
theorem apply_x {z : BS} {vs : List V} {s : MS} {x : XS} {q : V} {a : List V} {p : Nat} (hz : InvB z) (hc : Cm z vs s x) (h1 : s.app = some (q, a)) (h2 : VOk x.obs q) (h3 : ∀ v ∈ a, VOk x.obs v) (h4 : StkX z vs s.st x.ch x.fs) (hp : s.pc = (p : Int) + 1) (h6 : z.is[p]? = some (12, 0)) : SRX z vs (applyS (cdOf z vs) s) (applyX x q a) := by
  unfold applyS applyX
  rw [h1]
  cases q with
  | proc id =>
    obtain ⟨g1, k, g2⟩ := h2
    have hl := hc.ob.len
    have hb : s.obs[id / 2]? = some (s.obs[id / 2]'(by rw [hl]; exact get_lt g2)) := List.getElem?_eq_getElem _
    have ho := hc.ob.at' _ _ _ hb g2
    have e2 : procX x id = some k := by unfold procX; rw [if_pos g1, g2]
    simp only [e2]
    cases hk : s.obs[id / 2]'(by rw [hl]; exact get_lt g2) with
    | none => rw [hk] at ho; exact ho.elim
    | some pk =>
      rw [hk] at ho hb
      have e1 : procS? s id = some pk := by unfold procS?; rw [if_pos g1, hb]
      simp only [e1]
      exact do_x hz (s := { s with app := none }) ⟨hc.out, hc.f0, hc.fr, hc.ob, hc.ch⟩ h4 h3 hp h6 pk k ho
  | int _ => exact err_x hc h4
  | bool _ => exact err_x hc h4
  | sym _ => exact err_x hc h4
  | empty => exact err_x hc h4
  | nothing => exact err_x hc h4
  | pair _ _ _ => exact err_x hc h4
/-- An application. -/
theorem sim_app {z : BS} {vs : List V} {s : MS} {x : XS} {q : V} {a : List V} (hz : InvB z) (h : Rel z vs s x) (hm : x.md = .app q a) : SimR z vs s 1 (applyX x q a) := by
  obtain ⟨hc, hd⟩ := h
  rw [hm] at hd
  obtain ⟨h1, h2, h3, h4, p, h5, h6⟩ := hd
  exact sim_sr h5 h6 (apply_x hz ⟨hc.out, hc.f0, hc.fr, hc.ob, hc.ch⟩ h1 h2 h3 h4 rfl h6)
/-- A step. -/
theorem sim_step {z : BS} {vs : List V} {s : MS} {x : XS} (hz : InvB z) (hn : z.is.length ≤ 1000000 ∧ z.ns.length < 1000000) (h : Rel z vs s x) : SimR z vs s x.md.cost (stepX x) := by
  unfold stepX
  cases hm : x.md with
  | next =>
    simp only
    have hd := h.md
    rw [hm] at hd
    obtain ⟨h1, h2, p, h3, h4⟩ := hd
    have hc := h.cm
    cases hf : x.fs with
    | nil =>
      rw [hf] at h4
      simp only
      refine Tw.done (op := 14) (n := 0) h3 h4 (by omega) ?_
      simp only [opS, h2, hc.out]
      cases x.last <;> rfl
    | cons e r =>
      rw [hf] at h4
      obtain ⟨t, k0, k1, k2, k3⟩ := h4
      refine ⟨{ s with pc := (p : Int) + 1, st := [⟨s.fr, (t : Int), []⟩] }, Sp.one (op := 0) h3 k1 (by omega) (by simp only [opS]), ⟨hc.out, hc.f0, hc.fr, hc.ob, by simp, fun k hk => by simp at hk⟩, h1, hc.f0, ⟨_, rfl, h1, t, rfl, k3⟩, p + 1, none, by simp, k2, fun q hq => by cases hq⟩
  | ev e => exact sim_ev hz e h hm
  | back v =>
    simp only
    cases hch : x.ch with
    | nil =>
      simp only
      have hd := h.md
      rw [hm] at hd
      obtain ⟨h1, h2, h3, t, r, h4, h5, h6⟩ := hd
      rw [hch] at h3
      obtain ⟨e, g1, g2, n, g3, g4⟩ := h3
      rw [h4] at g1; cases g1
      have hc := h.cm
      exact ⟨s, Sp.refl _ _, ⟨hc.out, hc.f0, hc.fr, hc.ob, by rw [← hch]; exact hc.ch⟩, by rw [h6, g2], h1, n, by rw [h5, g3], g4⟩
    | cons k ch => exact sim_give hz hn h hm hch
  | app q a => exact sim_app hz h hm
/-- What runs come to, of both. -/
def RRX (z : BS) (vs : List V) : RR → XRR → Prop
  | .run s, .run x => Rel z vs s x ∧ x.md.isApp = true
  | .err e d o, .err e' d' o' => e = e' ∧ d = d' ∧ o = o'
  | .done t o, .done t' o' => t = t' ∧ o = o'
  | _, _ => False
/-- Every run comes to its end, and both to the same. -/
theorem run_both {z : BS} {vs : List V} (hz : InvB z) (hn : z.is.length ≤ 1000000 ∧ z.ns.length < 1000000) (n : Nat) : ∀ (d m : Nat) (s : MS) (x : XS) (made : Nat), n - made ≤ d → muX x ≤ m → made ≤ n → Rel z vs s x → ∃ F K c r q, goS (cdOf z vs) F s n made = some (c, r) ∧ goX K x n made = some (c, q) ∧ RRX z vs r q
  | d, m, s, x, made, hd, hm, hl, h => by
    have hst := sim_step hz hn h
    by_cases ha : x.md.isApp = true
    · by_cases he : made = n
      · -- held
        have hmd := h.md
        cases hx : x.md with
        | next => rw [hx] at ha; cases ha
        | ev e => rw [hx] at ha; cases ha
        | back v => rw [hx] at ha; cases ha
        | app q a =>
          rw [hx] at hmd
          obtain ⟨_, _, _, _, p, h5, h6⟩ := hmd
          refine ⟨1, 1, made, .run s, .run x, ?_, ?_, h, ha⟩
          · rw [goS, fetch_at h5 h6]; simp [he]
          · rw [goX, if_pos ⟨ha, he⟩]
      · have hcost : x.md.cost = 1 := by unfold XM.cost; rw [if_pos ha]
        rw [hcost] at hst
        cases hs : stepX x with
        | ok x' =>
          rw [hs] at hst
          obtain ⟨s', ⟨k, hk⟩, h'⟩ := hst
          cases d with
          | zero => omega
          | succ d =>
            obtain ⟨F, K, c, r, q, g1, g2, g3⟩ := run_both hz hn n d (muX x') s' x' (made + 1) (by omega) (Nat.le_refl _) (by omega) h'
            refine ⟨k + F, K + 1, c, r, q, by rw [hk F n made (by omega)]; exact g1, ?_, g3⟩
            rw [goX, if_neg (fun e => he e.2), hs]
            simp only [hcost]
            exact g2
        | err e d o =>
          rw [hs] at hst
          obtain ⟨F, hF⟩ := hst
          refine ⟨F, 1, made + 1, .err e d o, .err e d o, hF n made (by omega), ?_, rfl, rfl, rfl⟩
          rw [goX, if_neg (fun e => he e.2), hs, hcost]
        | done t o =>
          rw [hs] at hst
          obtain ⟨F, hF⟩ := hst
          refine ⟨F, 1, made + 1, .done t o, .done t o, hF n made (by omega), ?_, rfl, rfl⟩
          rw [goX, if_neg (fun e => he e.2), hs, hcost]
        | bad => rw [hs] at hst; exact hst.elim
    · have ha' : x.md.isApp = false := by simpa using ha
      have hcost : x.md.cost = 0 := by unfold XM.cost; rw [if_neg ha]
      rw [hcost] at hst
      cases hs : stepX x with
      | ok x' =>
        rw [hs] at hst
        obtain ⟨s', ⟨k, hk⟩, h'⟩ := hst
        have hmu := mu_step ha' hs
        cases m with
        | zero => omega
        | succ m =>
          obtain ⟨F, K, c, r, q, g1, g2, g3⟩ := run_both hz hn n d m s' x' made hd (by omega) hl h'
          refine ⟨k + F, K + 1, c, r, q, by rw [hk F n made (by omega)]; exact g1, ?_, g3⟩
          rw [goX, if_neg (fun e => ha e.1), hs]
          simp only [hcost]
          exact g2
      | err e d o =>
        rw [hs] at hst
        obtain ⟨F, hF⟩ := hst
        refine ⟨F, 1, made + 0, .err e d o, .err e d o, hF n made (by omega), ?_, rfl, rfl, rfl⟩
        rw [goX, if_neg (fun e => ha e.1), hs, hcost]
      | done t o =>
        rw [hs] at hst
        obtain ⟨F, hF⟩ := hst
        refine ⟨F, 1, made + 0, .done t o, .done t o, hF n made (by omega), ?_, rfl, rfl⟩
        rw [goX, if_neg (fun e => ha e.1), hs, hcost]
      | bad => rw [hs] at hst; exact hst.elim
termination_by d m => (d, m)
/-- The outset. -/
theorem start_rel {z : BS} {vs : List V} (hz : InvB z) {fs : List X} (hf : FormsX z vs fs 0) : Rel z vs (startS (cdOf z vs)) (startX fs) := by
  have hO : ∀ j, j < 14 → VOk (startX fs).obs (.proc (2 * j)) := fun j hj => ⟨by omega, .first j, by
    rw [show 2 * j / 2 = j by omega]
    show ((List.range 14).map fun k => some (XP.first k))[j]? = _
    simp [hj]⟩
  refine ⟨⟨rfl, by simp [startX], ⟨rfl, fun i f x h1 h2 => ?_⟩, ⟨rfl, fun i p q h1 h2 => ?_⟩, by simp [startX], fun k hk => by simp [startX] at hk⟩, rfl, rfl, 0, rfl, hf⟩
  · have hi : i = 0 := by
      have := get_lt h2
      simp [startX] at this; exact this
    subst hi
    have h1 : some (outerS (cdOf z vs) 0 firstN ⟨[], [], none⟩) = some f := h1
    have h2 : some (XF.mk firstN ((List.range 14).map fun k => V.proc (2 * k)) none) = some x := h2
    cases h1; cases h2
    exact outer_x (vs := vs) hz.nd firstN 0 ⟨[], [], none⟩ ⟨[], [], none⟩ ⟨rfl, rfl, rfl, fun n hn => by simp at hn, by simp, fun i s _ => rfl, fun v hv => by simp at hv⟩ (fun j hj => hO j (by simpa [firstN] using hj))
  · have hi := get_lt h1
    have hi : i < 14 := by simpa [startS] using hi
    have e1 : (startS (cdOf z vs)).obs[i]? = some (some (PK.first i)) := by
      show ((List.range 14).map fun k => some (PK.first k))[i]? = _
      simp [hi]
    have e2 : (startX fs).obs[i]? = some (some (XP.first i)) := by
      show ((List.range 14).map fun k => some (XP.first k))[i]? = _
      simp [hi]
    rw [e1] at h1; rw [e2] at h2
    cases h1; cases h2
    exact ⟨rfl, hi⟩
end Go.Proofs.YtlobegpjenabaaaGreatDoor
