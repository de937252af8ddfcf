/- Procedures that nothing reaches any more are of no account. -/
import Derived.Test.YtlobegpjenabaaaGreatDoorQKpChn
namespace Go.Proofs.YtlobegpjenabaaaGreatDoor
set_option linter.unusedSimpArgs false
set_option linter.unusedVariables false

/-- More is known of pairs and procedures. -/
def leO (a b : List (Option PK)) : Prop := a.length = b.length ∧ ∀ (i : Nat) (p : PK), a[i]? = some (some p) → b[i]? = some (some p)
theorem leO.snoc {a b : List (Option PK)} (h : leO a b) (p : Option PK) : leO (a ++ [p]) (b ++ [p]) := by
  refine ⟨by simp [h.1], fun i q hq => ?_⟩
  rcases Nat.lt_or_ge i a.length with hi | hi
  · rw [List.getElem?_append_left hi] at hq
    rw [List.getElem?_append_left (by rw [← h.1]; exact hi)]
    exact h.2 i q hq
  · rw [List.getElem?_append_right hi] at hq
    rw [List.getElem?_append_right (by rw [← h.1]; exact hi), ← h.1]
    exact hq
def wO (s : MS) (O : List (Option PK)) : MS := { s with obs := O }
/-- What an instruction comes to where more is known. -/
def leR (r r' : SR) : Prop := match r with
  | .ok s => ∃ O, leO s.obs O ∧ r' = .ok (wO s O)
  | .err e d o => r' = .err e d o
  | .done t o => r' = .done t o
  | .bad => True
theorem giveS_le {s : MS} {O : List (Option PK)} (h : leO s.obs O) (v : V) : leR (giveS s v) (giveS (wO s O) v) := by
  unfold giveS
  have hst : (wO s O).st = s.st := rfl
  rw [hst]
  cases hs : s.st with
  | nil => trivial
  | cons e r => exact ⟨O, h, by simp only [wO, hs]⟩
theorem errS_le {s : MS} {O : List (Option PK)} (e : Int) : leR (errS s e) (errS (wO s O) e) := by
  unfold errS
  have hst : (wO s O).st = s.st := rfl
  rw [hst]
  cases s.st with
  | nil => trivial
  | cons e' r => rfl
theorem intsS_le {s : MS} {O : List (Option PK)} (h : leO s.obs O) (f : Int → Int → V) (a b : V) : leR (intsS s f a b) (intsS (wO s O) f a b) := by
  cases a <;> cases b <;> first | exact giveS_le h _ | exact errS_le 8
theorem firstS_le {C : Cd} {s : MS} {O : List (Option PK)} (h : leO s.obs O) (k : Nat) (a : List V) : leR (firstS C s k a) (firstS C (wO s O) k a) := by
  rcases k with _ | _ | _ | _ | _ | _ | _ | _ | _ | _ | _ | _ | _ | _ | k <;> rcases a with _ | ⟨a, _ | ⟨b, _ | ⟨c, r⟩⟩⟩ <;> try trivial
  · exact intsS_le h _ a b
  · exact intsS_le h _ a b
  · exact intsS_le h _ a b
  · exact intsS_le h _ a b
  · exact intsS_le h _ a b
  · show leR (giveS { s with obs := s.obs ++ [none] } (.pair (2 * s.obs.length) a b)) (giveS { wO s O with obs := O ++ [none] } (.pair (2 * O.length) a b))
    rw [← h.1]
    exact giveS_le (s := { s with obs := s.obs ++ [none] }) (h.snoc none) _
  · cases a <;> first | exact errS_le 8 | exact giveS_le h _
  · cases a <;> first | exact errS_le 8 | exact giveS_le h _
  · exact giveS_le h _
  · cases a <;> exact giveS_le h _
  · exact giveS_le h _
  · exact giveS_le h _
  · show leR (if s.out.length = 40 then errS s 10 else giveS { s with out := s.out ++ [(toldS a).take 100] } .nothing) (if s.out.length = 40 then errS (wO s O) 10 else giveS { wO s O with out := s.out ++ [(toldS a).take 100] } .nothing)
    split
    · exact errS_le 10
    · exact giveS_le (s := { s with out := s.out ++ [(toldS a).take 100] }) h _
  · refine ⟨O ++ [some (.kont s.st)], h.snoc _, ?_⟩
    show SR.ok { wO s O with app := some (a, [.proc (2 * O.length)]), obs := O ++ [some (.kont s.st)], pc := s.pc - 1 } = _
    rw [← h.1]; rfl
theorem doS_le {C : Cd} {s : MS} {O : List (Option PK)} (h : leO s.obs O) (a : List V) (p : PK) : leR (doS C s a p) (doS C (wO s O) a p) := by
  cases p with
  | first k =>
    show leR (if a.length = needS k then firstS C s k a else errS s 7) (if a.length = needS k then firstS C (wO s O) k a else errS (wO s O) 7)
    split
    · exact firstS_le h k a
    · exact errS_le 7
  | clo l f =>
    simp only [doS]
    cases C.ls[l]? with
    | none => trivial
    | some x =>
      obtain ⟨nm, ns, e⟩ := x
      simp only
      split
      · exact ⟨O, h, rfl⟩
      · exact errS_le 7
  | kont st =>
    simp only [doS]
    rcases a with _ | ⟨a, _ | ⟨b, r⟩⟩
    · exact errS_le 7
    · exact giveS_le (s := { s with st := st }) h a
    · exact errS_le 7
theorem applyS_le {C : Cd} {s : MS} {O : List (Option PK)} (h : leO s.obs O) : leR (applyS C s) (applyS C (wO s O)) := by
  unfold applyS
  show leR _ (match s.app with | some (.proc id, a) => _ | some _ => _ | none => _)
  cases ha : s.app with
  | none => trivial
  | some x =>
    obtain ⟨p, a⟩ := x
    cases p with
    | proc id =>
      simp only
      cases hp : procS? s id with
      | none => trivial
      | some k =>
        have : procS? (wO s O) id = some k := by
          unfold procS? at hp ⊢
          split at hp
          · rename_i hid
            rw [if_pos hid]
            split at hp
            · rename_i k' hk
              cases hp
              show (match O[id / 2]? with | some (some k) => some k | _ => none) = _
              rw [h.2 _ _ hk]
            · cases hp
          · cases hp
        rw [this]
        exact doS_le (s := { s with app := none }) h a k
    | _ => exact errS_le 6
theorem opS_le {C : Cd} {s : MS} {O : List (Option PK)} (h : leO s.obs O) (op n : Int) : leR (opS C s op n) (opS C (wO s O) op n) := by
  have ok : ∀ t : MS, t.obs = s.obs → leR (.ok t) (.ok (wO t O)) := fun t ht => ⟨O, by rw [ht]; exact h, rfl⟩
  have hst : (wO s O).st = s.st := rfl
  have hva : (wO s O).val = s.val := rfl
  have hfs : (wO s O).frs = s.frs := rfl
  have hfr : (wO s O).fr = s.fr := rfl
  by_cases e : op = 0
  · subst e; exact ok _ rfl
  by_cases e : op = 1
  · subst e
    simp only [opS]
    cases C.cs[n.toNat]? with
    | none => trivial
    | some v => exact ok _ rfl
  by_cases e : op = 2
  · subst e
    simp only [opS, hfs, hfr]
    cases findS s.frs (s.fr + 1) s.fr n with
    | none => exact errS_le 5
    | some r =>
      obtain ⟨f, i⟩ := r
      simp only
      cases s.frs[f]? with
      | none => trivial
      | some fr =>
        simp only
        cases fr.vs[i]? with
        | none => trivial
        | some v => exact ok _ rfl
  by_cases e : op = 3
  · subst e
    simp only [opS]
    split
    · refine ⟨O ++ [some (.clo n.toNat s.fr)], h.snoc _, ?_⟩
      show SR.ok { wO s O with val := some (.proc (2 * O.length)), obs := O ++ [some (.clo n.toNat s.fr)] } = _
      rw [← h.1]; rfl
    · trivial
  by_cases e : op = 4
  · subst e
    simp only [opS, hst]
    split
    · exact errS_le 9
    · split
      · trivial
      · exact ok _ rfl
  by_cases e : op = 5
  · subst e
    simp only [opS, hst, hva]
    cases s.st with
    | nil => trivial
    | cons q r =>
      cases s.val with
      | none => trivial
      | some v =>
        simp only
        split
        · exact ok _ rfl
        · trivial
  by_cases e : op = 6
  · subst e
    simp only [opS, hst]
    cases s.st with
    | nil => trivial
    | cons q r => exact ok _ rfl
  by_cases e : op = 7
  · subst e
    simp only [opS, hst]
    cases s.st with
    | nil => trivial
    | cons q r => exact ok _ rfl
  by_cases e : op = 8
  · subst e
    simp only [opS, hst, hva]
    cases s.st with
    | nil => trivial
    | cons q r =>
      cases s.val with
      | none => trivial
      | some v => exact ok _ rfl
  by_cases e : op = 9
  · subst e
    simp only [opS, hst, hva, hfs, hfr]
    cases s.st with
    | nil => trivial
    | cons q r =>
      cases s.val with
      | none => trivial
      | some v =>
        simp only
        cases s.frs[s.fr]? with
        | none => trivial
        | some fr =>
          simp only
          split
          · exact ok _ rfl
          · trivial
  by_cases e : op = 10
  · subst e
    simp only [opS, hst, hva, hfs, hfr]
    cases s.st with
    | nil => trivial
    | cons q r =>
      cases s.val with
      | none => trivial
      | some v =>
        simp only
        cases findS s.frs (s.fr + 1) s.fr n with
        | none => exact errS_le (s := { s with st := r }) (O := O) 5
        | some r' =>
          obtain ⟨f, i⟩ := r'
          simp only
          cases s.frs[f]? with
          | none => trivial
          | some fr => exact ok _ rfl
  by_cases e : op = 11
  · subst e
    simp only [opS, hst, hva]
    cases s.st with
    | nil => trivial
    | cons q r =>
      cases s.val with
      | none => trivial
      | some v =>
        simp only
        cases (v :: q.got).reverse with
        | nil => trivial
        | cons p a => exact ok _ rfl
  by_cases e : op = 12
  · subst e; exact applyS_le h
  by_cases e : op = 13
  · subst e
    simp only [opS, hst]
    cases s.st with
    | nil => trivial
    | cons q r => exact ok _ rfl
  by_cases e : op = 14
  · subst e; rfl
  · have : opS C s op n = .bad := by unfold opS; split <;> first | contradiction | rfl
    rw [this]; trivial
def leRR (r r' : RR) : Prop := match r with
  | .run s => ∃ O, leO s.obs O ∧ r' = .run (wO s O)
  | .err e d o => r' = .err e d o
  | .done t o => r' = .done t o
theorem goS_le {C : Cd} : ∀ (k : Nat) (s : MS) (O : List (Option PK)) (n made m : Nat) (r : RR), leO s.obs O → goS C k s n made = some (m, r) → ∃ r', goS C k (wO s O) n made = some (m, r') ∧ leRR r r'
  | 0, s, O, n, made, m, r, _, h => by cases h
  | k + 1, s, O, n, made, m, r, hO, h => by
    unfold goS at h ⊢
    have hf : fetchS C (wO s O) = fetchS C s := rfl
    rw [hf]
    cases hx : fetchS C s with
    | none => rw [hx] at h; cases h
    | some q =>
      obtain ⟨op, x⟩ := q
      rw [hx] at h
      simp only at h ⊢
      split
      · rename_i hc
        rw [if_pos hc] at h
        cases h
        exact ⟨_, rfl, O, hO, rfl⟩
      · rename_i hc
        rw [if_neg hc] at h
        have hs : leR (stepS C s) (stepS C (wO s O)) := by
          unfold stepS
          rw [hf, hx]
          simp only
          split
          · exact opS_le (s := { s with pc := s.pc + 1 }) hO op x
          · trivial
        cases ht : stepS C s with
        | bad => rw [ht] at h; cases h
        | ok s' =>
          rw [ht] at h hs
          obtain ⟨O', h1, h2⟩ := hs
          rw [h2]
          exact goS_le k s' O' n _ m r h1 h
        | err e d o =>
          rw [ht] at h hs
          simp only at h
          cases h
          rw [show stepS C (wO s O) = .err e d o from hs]
          exact ⟨_, rfl, rfl⟩
        | done t o =>
          rw [ht] at h hs
          simp only at h
          cases h
          rw [show stepS C (wO s O) = .done t o from hs]
          exact ⟨_, rfl, rfl⟩
theorem Ends.le {C : Cd} {t : List UInt8} : ∀ {N : Nat} {s : MS} {O : List (Option PK)}, leO s.obs O → Ends C t N s → Ends C t N (wO s O)
  | 0, _, _, _, h => h.elim
  | 1, s, O, hO, ⟨h1, h2, h3, F, h4⟩ => by
    obtain ⟨r', g1, g2⟩ := goS_le F s O 1 0 1 _ hO h4
    cases (show r' = .done t [] from g2)
    exact ⟨h1, h2, h3, F, g1⟩
  | N + 2, s, O, hO, ⟨h1, h2, h3, F, s', h4, h5⟩ => by
    obtain ⟨r', g1, O', g2, g3⟩ := goS_le F s O 1 0 1 _ hO h4
    subst g3
    exact ⟨h1, h2, h3, F, wO s' O', g1, Ends.le g2 h5⟩
end Go.Proofs.YtlobegpjenabaaaGreatDoor
