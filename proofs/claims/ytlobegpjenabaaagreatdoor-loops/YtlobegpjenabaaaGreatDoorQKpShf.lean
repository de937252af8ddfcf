/- Frames that nothing reaches any more are of no account. -/
import Derived.Test.YtlobegpjenabaaaGreatDoorK36
namespace Go.Proofs.YtlobegpjenabaaaGreatDoor
set_option linter.unusedSimpArgs false
set_option linter.unusedVariables false

/-- A frame's number where g frames lie behind the first one. -/
def up (g : Nat) : Nat → Nat
  | 0 => 0
  | i + 1 => i + 1 + g
def En.up (g : Nat) (e : En) : En := ⟨Go.Proofs.YtlobegpjenabaaaGreatDoor.up g e.fr, e.nx, e.got⟩
def Fr.up (g : Nat) (f : Fr) : Fr := ⟨f.ns, f.vs, f.out.map (Go.Proofs.YtlobegpjenabaaaGreatDoor.up g)⟩
def PK.up (g : Nat) : PK → PK
  | .first k => .first k
  | .clo l f => .clo l (Go.Proofs.YtlobegpjenabaaaGreatDoor.up g f)
  | .kont st => .kont (st.map (En.up g))
/-- Frames with those of G behind the first one. -/
def shF (G : List Fr) : List Fr → List Fr
  | [] => []
  | f :: r => f.up G.length :: (G ++ r.map (Fr.up G.length))
def sh (G : List Fr) (s : MS) : MS := { s with fr := up G.length s.fr, st := s.st.map (En.up G.length), frs := shF G s.frs, obs := s.obs.map (Option.map (PK.up G.length)) }
def shR (G : List Fr) : SR → SR
  | .ok s => .ok (sh G s)
  | .err e d o => .err e d o
  | .done t o => .done t o
  | .bad => .bad
theorem shF_get (G : List Fr) (l : List Fr) (i : Nat) : (shF G l)[up G.length i]? = (l[i]?).map (Fr.up G.length) := by
  cases l with
  | nil => simp [shF]
  | cons f r =>
    cases i with
    | zero => rfl
    | succ i =>
      show (f.up G.length :: (G ++ r.map (Fr.up G.length)))[i + 1 + G.length]? = _
      rw [show i + 1 + G.length = (G.length + i) + 1 by omega, List.getElem?_cons_succ, List.getElem?_append_right (by omega), Nat.add_sub_cancel_left, List.getElem?_map]
      rfl
theorem shF_set (G : List Fr) (l : List Fr) (i : Nat) (x : Fr) : (shF G l).set (up G.length i) (x.up G.length) = shF G (l.set i x) := by
  cases l with
  | nil => simp [shF]
  | cons f r =>
    cases i with
    | zero => rfl
    | succ i =>
      show (f.up G.length :: (G ++ r.map (Fr.up G.length))).set (i + 1 + G.length) (x.up G.length) = f.up G.length :: (G ++ (r.set i x).map (Fr.up G.length))
      rw [show i + 1 + G.length = (G.length + i) + 1 by omega, List.set_cons_succ, List.set_append_right _ _ (by omega), Nat.add_sub_cancel_left, List.map_set]
theorem shF_len (G : List Fr) (l : List Fr) (h : l ≠ []) : (shF G l).length = up G.length l.length := by
  cases l with
  | nil => exact absurd rfl h
  | cons f r => simp [shF, up]; omega
theorem shF_snoc (G : List Fr) (l : List Fr) (h : l ≠ []) (x : Fr) : shF G l ++ [x.up G.length] = shF G (l ++ [x]) := by
  cases l with
  | nil => exact absurd rfl h
  | cons f r => simp [shF]
theorem findS_up (G : List Fr) (l : List Fr) (n : Int) : ∀ (k f : Nat) (r : Nat × Nat), findS l k f n = some r → ∀ j, findS (shF G l) (k + j) (up G.length f) n = some (up G.length r.1, r.2)
  | 0, f, r, h, j => by cases h
  | k + 1, f, r, h, j => by
    rw [show k + 1 + j = (k + j) + 1 by omega]
    unfold findS at h ⊢
    rw [shF_get]
    cases hf : l[f]? with
    | none => rw [hf] at h; cases h
    | some fr =>
      rw [hf] at h
      simp only [Option.map_some] at h ⊢
      have hns : (Fr.up G.length fr).ns = fr.ns := rfl
      rw [hns]
      cases hi : idxI fr.ns n with
      | some i => rw [hi] at h; simp only at h ⊢; cases h; rfl
      | none =>
        rw [hi] at h
        simp only at h ⊢
        cases ho : fr.out with
        | none => rw [ho] at h; cases h
        | some g =>
          rw [ho] at h
          have : (Fr.up G.length fr).out = some (up G.length g) := by simp [Fr.up, ho]
          rw [this]
          exact findS_up G l n k g r h j
theorem findS_up' (G : List Fr) (l : List Fr) (n : Int) (f : Nat) (r : Nat × Nat) (h : findS l (f + 1) f n = some r) : findS (shF G l) (up G.length f + 1) (up G.length f) n = some (up G.length r.1, r.2) := by
  have : up G.length f + 1 = (f + 1) + (up G.length f - f) := by
    cases f with
    | zero => rfl
    | succ f => simp [up]; omega
  rw [this]
  exact findS_up G l n _ f r h _
theorem Fr.define_up (g : Nat) (f : Fr) (n : Int) (v : V) : (f.define n v).up g = (f.up g).define n v := by
  unfold Fr.define
  show _ = match idxI f.ns n with | some i => _ | none => _
  cases idxI f.ns n <;> rfl
theorem giveS_sh (G : List Fr) (s : MS) (v : V) : giveS (sh G s) v = shR G (giveS s v) := by
  unfold giveS
  cases h : s.st with
  | nil => simp [sh, h, shR]
  | cons e r => simp [sh, h, shR, En.up]
theorem errS_sh (G : List Fr) (s : MS) (e : Int) : errS (sh G s) e = shR G (errS s e) := by
  unfold errS
  cases h : s.st with
  | nil => simp [sh, h, shR]
  | cons e' r => simp [sh, h, shR]
theorem intsS_sh (G : List Fr) (s : MS) (f : Int → Int → V) (a b : V) : intsS (sh G s) f a b = shR G (intsS s f a b) := by
  cases a <;> cases b <;> first | exact giveS_sh G s _ | exact errS_sh G s 8
theorem firstS_sh (G : List Fr) (C : Cd) (s : MS) (k : Nat) (a : List V) : firstS C (sh G s) k a = shR G (firstS C s k a) := by
  have hol : (sh G s).obs.length = s.obs.length := by simp [sh]
  have hpush : ∀ p, ({ sh G s with obs := (sh G s).obs ++ [Option.map (PK.up G.length) p] } : MS) = sh G { s with obs := s.obs ++ [p] } := fun p => by simp [sh]
  rcases k with _ | _ | _ | _ | _ | _ | _ | _ | _ | _ | _ | _ | _ | _ | k <;> rcases a with _ | ⟨a, _ | ⟨b, _ | ⟨c, r⟩⟩⟩ <;> try rfl
  · exact intsS_sh G s _ a b
  · exact intsS_sh G s _ a b
  · exact intsS_sh G s _ a b
  · exact intsS_sh G s _ a b
  · exact intsS_sh G s _ a b
  · show giveS { sh G s with obs := (sh G s).obs ++ [none] } (.pair (2 * (sh G s).obs.length) a b) = shR G (giveS { s with obs := s.obs ++ [none] } (.pair (2 * s.obs.length) a b))
    rw [← giveS_sh, ← hpush none, hol]; rfl
  · cases a <;> first | exact errS_sh G s 8 | exact giveS_sh G s _
  · cases a <;> first | exact errS_sh G s 8 | exact giveS_sh G s _
  · exact giveS_sh G s _
  · cases a <;> exact giveS_sh G s _
  · exact giveS_sh G s _
  · exact giveS_sh G s _
  · show (if s.out.length = 40 then errS (sh G s) 10 else giveS { sh G s with out := s.out ++ [(toldS a).take 100] } .nothing) = shR G (if s.out.length = 40 then errS s 10 else giveS { s with out := s.out ++ [(toldS a).take 100] } .nothing)
    split
    · exact errS_sh G s 10
    · exact giveS_sh G { s with out := s.out ++ [(toldS a).take 100] } .nothing
  · show SR.ok { sh G s with app := some (a, [.proc (2 * (sh G s).obs.length)]), obs := (sh G s).obs ++ [some (.kont (sh G s).st)], pc := s.pc - 1 } = SR.ok (sh G { s with app := some (a, [.proc (2 * s.obs.length)]), obs := s.obs ++ [some (.kont s.st)], pc := s.pc - 1 })
    rw [hol]
    simp [sh, PK.up]
theorem doS_sh (G : List Fr) (C : Cd) (s : MS) (hn : s.frs ≠ []) (a : List V) (p : PK) : doS C (sh G s) a (p.up G.length) = shR G (doS C s a p) := by
  cases p with
  | first k =>
    show (if a.length = needS k then firstS C (sh G s) k a else errS (sh G s) 7) = shR G (if a.length = needS k then firstS C s k a else errS s 7)
    split
    · exact firstS_sh G C s k a
    · exact errS_sh G s 7
  | clo l f =>
    simp only [doS, PK.up]
    cases hl : C.ls[l]? with
    | none => rfl
    | some x =>
      obtain ⟨nm, ns, e⟩ := x
      simp only
      split
      · simp only [shR, SR.ok.injEq]
        show ({ sh G s with frs := shF G s.frs ++ [⟨ns.map Int.ofNat, a, some (up G.length f)⟩], fr := (shF G s.frs).length, pc := e } : MS) = sh G { s with frs := s.frs ++ [⟨ns.map Int.ofNat, a, some f⟩], fr := s.frs.length, pc := e }
        have h1 := shF_snoc G s.frs hn ⟨ns.map Int.ofNat, a, some f⟩
        have h2 := shF_len G s.frs hn
        simp only [Fr.up, Option.map_some] at h1
        rw [h1, h2]
        rfl
      · exact errS_sh G s 7
  | kont st =>
    simp only [doS, PK.up]
    rcases a with _ | ⟨a, _ | ⟨b, r⟩⟩
    · exact errS_sh G s 7
    · exact giveS_sh G { s with st := st } a
    · exact errS_sh G s 7
theorem applyS_sh (G : List Fr) (C : Cd) (s : MS) (hn : s.frs ≠ []) : applyS C (sh G s) = shR G (applyS C s) := by
  unfold applyS
  show (match s.app with | some (.proc id, a) => _ | some _ => _ | none => _) = _
  cases ha : s.app with
  | none => rfl
  | some x =>
    obtain ⟨p, a⟩ := x
    cases p with
    | proc id =>
      simp only
      have hp : procS? (sh G s) id = (procS? s id).map (PK.up G.length) := by
        unfold procS?
        split
        · show (match (s.obs.map (Option.map (PK.up G.length)))[id / 2]? with | some (some k) => some k | _ => none) = _
          rw [List.getElem?_map]
          cases s.obs[id / 2]? with
          | none => rfl
          | some o => cases o <;> rfl
        · rfl
      rw [hp]
      cases procS? s id with
      | none => rfl
      | some k => exact doS_sh G C { s with app := none } hn a k
    | _ => exact errS_sh G s 6
/-- One instruction, with frames that nothing reaches. -/
theorem opS_sh (G : List Fr) (C : Cd) (s : MS) (hn : s.frs ≠ []) (op n : Int) (h5 : ∀ d o, opS C s op n ≠ .err 5 d o) (hb : opS C s op n ≠ .bad) : opS C (sh G s) op n = shR G (opS C s op n) := by
  have hol : (sh G s).obs.length = s.obs.length := by simp [sh]
  have hfr : (sh G s).frs = shF G s.frs := rfl
  have hff : (sh G s).fr = up G.length s.fr := rfl
  have hst : (sh G s).st = s.st.map (En.up G.length) := rfl
  have hva : (sh G s).val = s.val := rfl
  have hun : ∀ (t : MS), (∀ d o, errS t 5 ≠ .err 5 d o) → errS t 5 ≠ .bad → False := fun t h1 h2 => by
    unfold errS at h1 h2
    cases ht : t.st with
    | nil => rw [ht] at h2; exact h2 rfl
    | cons e r => rw [ht] at h1; exact h1 _ _ rfl
  by_cases h : op = 0
  · subst h; rfl
  by_cases h : op = 1
  · subst h
    simp only [opS]
    cases C.cs[n.toNat]? <;> rfl
  by_cases h : op = 2
  · subst h
    simp only [opS] at h5 hb ⊢
    cases hf : findS s.frs (s.fr + 1) s.fr n with
    | none => rw [hf] at h5 hb; exact (hun s h5 hb).elim
    | some r =>
      obtain ⟨f, i⟩ := r
      have := findS_up' G s.frs n s.fr (f, i) hf
      rw [hfr, hff, this]
      simp only
      rw [shF_get]
      cases s.frs[f]? with
      | none => rfl
      | some fr =>
        simp only [Option.map_some]
        show (match fr.vs[i]? with | some v => _ | none => _) = _
        cases fr.vs[i]? <;> rfl
  by_cases h : op = 3
  · subst h
    simp only [opS]
    split
    · simp only [shR, SR.ok.injEq]
      rw [hol]
      simp [sh, PK.up]
    · rfl
  by_cases h : op = 4
  · subst h
    simp only [opS]
    have hl : (sh G s).st.length = s.st.length := by rw [hst, List.length_map]
    rw [hl]
    split
    · exact errS_sh G s 9
    · split
      · rfl
      · rfl
  by_cases h : op = 5
  · subst h
    simp only [opS, hst, hva]
    cases s.st with
    | nil => rfl
    | cons e r =>
      cases s.val with
      | none => rfl
      | some v =>
        simp only [List.map_cons]
        show (if e.got.length < 1000000 then _ else _) = _
        split <;> rfl
  by_cases h : op = 6
  · subst h
    simp only [opS, hst]
    cases s.st <;> rfl
  by_cases h : op = 7
  · subst h
    simp only [opS, hst]
    cases s.st <;> rfl
  by_cases h : op = 8
  · subst h
    simp only [opS, hst, hva]
    cases s.st with
    | nil => rfl
    | cons e r => cases s.val <;> rfl
  by_cases h : op = 9
  · subst h
    simp only [opS, hst, hva, hfr, hff]
    cases s.st with
    | nil => rfl
    | cons e r =>
      cases s.val with
      | none => rfl
      | some v =>
        simp only [List.map_cons]
        rw [shF_get]
        cases s.frs[s.fr]? with
        | none => rfl
        | some fr =>
          simp only [Option.map_some]
          show (if fr.ns.length < 1000000 then _ else _) = _
          split
          · simp only [shR, SR.ok.injEq]
            rw [← Fr.define_up, shF_set]
            rfl
          · rfl
  by_cases h : op = 10
  · subst h
    simp only [opS, hst, hva, hfr, hff] at h5 hb ⊢
    cases hs : s.st with
    | nil => rfl
    | cons e r =>
      cases hv : s.val with
      | none => rfl
      | some v =>
        rw [hs, hv] at h5 hb
        simp only [List.map_cons] at h5 hb ⊢
        cases hf : findS s.frs (s.fr + 1) s.fr n with
        | none => rw [hf] at h5 hb; exact (hun _ h5 hb).elim
        | some q =>
          obtain ⟨f, i⟩ := q
          have := findS_up' G s.frs n s.fr (f, i) hf
          rw [this]
          simp only
          rw [shF_get]
          cases s.frs[f]? with
          | none => rfl
          | some fr =>
            simp only [Option.map_some, shR, SR.ok.injEq]
            rw [show (Fr.up G.length fr).put i v = (fr.put i v).up G.length from rfl, shF_set]
            rfl
  by_cases h : op = 11
  · subst h
    simp only [opS, hst, hva]
    cases s.st with
    | nil => rfl
    | cons e r =>
      cases s.val with
      | none => rfl
      | some v =>
        simp only [List.map_cons]
        show (match (v :: e.got).reverse with | p :: a => _ | [] => _) = _
        cases (v :: e.got).reverse <;> rfl
  by_cases h : op = 12
  · subst h
    exact applyS_sh G C s hn
  by_cases h : op = 13
  · subst h
    simp only [opS, hst]
    cases s.st <;> rfl
  by_cases h : op = 14
  · subst h; rfl
  · exact absurd (by unfold opS; split <;> first | contradiction | rfl) hb
theorem shF_ne (G : List Fr) (l : List Fr) (h : l ≠ []) : shF G l ≠ [] := by
  cases l with
  | nil => exact absurd rfl h
  | cons f r => simp [shF]
theorem giveS_frs {s s' : MS} {v : V} (h : giveS s v = .ok s') : s'.frs = s.frs := by
  unfold giveS at h
  split at h
  · cases h; rfl
  · cases h
theorem errS_ok {s s' : MS} {e : Int} (h : errS s e = .ok s') : False := by
  unfold errS at h
  split at h <;> cases h
theorem intsS_frs {s s' : MS} {f : Int → Int → V} {a b : V} (h : intsS s f a b = .ok s') : s'.frs = s.frs := by
  cases a <;> cases b <;> first | exact giveS_frs h | exact (errS_ok h).elim
theorem firstS_frs {C : Cd} {s s' : MS} {k : Nat} {a : List V} (h : firstS C s k a = .ok s') : s'.frs = s.frs := by
  rcases k with _ | _ | _ | _ | _ | _ | _ | _ | _ | _ | _ | _ | _ | _ | k <;> rcases a with _ | ⟨a, _ | ⟨b, _ | ⟨c, r⟩⟩⟩ <;> first | exact intsS_frs h | (cases h; done) | skip
  · have := giveS_frs h; exact this
  · cases a <;> first | exact giveS_frs h | exact (errS_ok h).elim
  · cases a <;> first | exact giveS_frs h | exact (errS_ok h).elim
  · exact giveS_frs h
  · cases a <;> exact giveS_frs h
  · exact giveS_frs h
  · exact giveS_frs h
  · simp only [firstS] at h
    split at h
    · exact (errS_ok h).elim
    · have := giveS_frs h; exact this
  · cases h; rfl
theorem doS_len {C : Cd} {s s' : MS} {a : List V} {p : PK} (h : doS C s a p = .ok s') : s.frs.length ≤ s'.frs.length := by
  cases p with
  | first k =>
    simp only [doS] at h
    split at h
    · rw [firstS_frs h]; exact Nat.le_refl _
    · exact (errS_ok h).elim
  | clo l f =>
    simp only [doS] at h
    split at h
    · split at h
      · cases h; simp
      · exact (errS_ok h).elim
    · cases h
  | kont st =>
    simp only [doS] at h
    split at h
    · have := giveS_frs h
      rw [this]; exact Nat.le_refl _
    · exact (errS_ok h).elim
theorem opS_len {C : Cd} {s s' : MS} {op n : Int} (h : opS C s op n = .ok s') : s.frs.length ≤ s'.frs.length := by
  unfold opS at h
  split at h
  · cases h; exact Nat.le_refl _
  · split at h <;> cases h; exact Nat.le_refl _
  · split at h
    · split at h
      · split at h <;> cases h; exact Nat.le_refl _
      · cases h
    · exact (errS_ok h).elim
  · split at h <;> cases h; exact Nat.le_refl _
  · split at h
    · exact (errS_ok h).elim
    · split at h <;> cases h; exact Nat.le_refl _
  · split at h
    · split at h <;> cases h; exact Nat.le_refl _
    · cases h
  · split at h <;> cases h; exact Nat.le_refl _
  · split at h <;> cases h; exact Nat.le_refl _
  · split at h <;> cases h; exact Nat.le_refl _
  · split at h
    · split at h
      · split at h <;> cases h; simp
      · cases h
    · cases h
  · split at h
    · split at h
      · split at h <;> cases h; simp
      · exact (errS_ok h).elim
    · cases h
  · split at h
    · split at h <;> cases h; exact Nat.le_refl _
    · cases h
  · unfold applyS at h
    split at h
    · split at h
      · have := doS_len h; exact this
      · cases h
    · exact (errS_ok h).elim
    · cases h
  · split at h <;> cases h; exact Nat.le_refl _
  · cases h
  · cases h
/-- What a run comes to, with frames that nothing reaches. -/
def shRR (G : List Fr) : RR → RR
  | .run s => .run (sh G s)
  | .err e d o => .err e d o
  | .done t o => .done t o
theorem goS_sh (G : List Fr) (C : Cd) : ∀ (k : Nat) (s : MS) (n made m : Nat) (r : RR), s.frs ≠ [] → goS C k s n made = some (m, r) → (∀ d o, r ≠ .err 5 d o) → goS C k (sh G s) n made = some (m, shRR G r)
  | 0, s, n, made, m, r, hn, h, _ => by cases h
  | k + 1, s, n, made, m, r, hn, h, h5 => by
    unfold goS at h ⊢
    have hf : fetchS C (sh G s) = fetchS C s := rfl
    rw [hf]
    cases hx : fetchS C s with
    | none => rw [hx] at h; cases h
    | some q =>
      obtain ⟨op, x⟩ := q
      rw [hx] at h
      simp only at h ⊢
      split
      · rename_i hc
        rw [if_pos hc] at h
        cases h; rfl
      · rename_i hc
        rw [if_neg hc] at h
        have hs : ∀ t, stepS C s = t → (∀ d o, t ≠ .err 5 d o) → t ≠ .bad → stepS C (sh G s) = shR G t := fun t ht h1 h2 => by
          unfold stepS at ht ⊢
          rw [hf, hx]
          rw [hx] at ht
          simp only at ht ⊢
          split
          · rename_i h0
            rw [if_pos h0] at ht
            subst ht
            exact opS_sh G C { s with pc := s.pc + 1 } hn op x h1 h2
          · rename_i h0
            rw [if_neg h0] at ht
            exact absurd ht.symm h2
        cases ht : stepS C s with
        | bad => rw [ht] at h; cases h
        | ok s' =>
          rw [hs _ ht (fun _ _ e => by cases e) (fun e => by cases e)]
          rw [ht] at h
          simp only [shR] at h ⊢
          refine goS_sh G C k s' n _ m r ?_ h h5
          unfold stepS at ht
          rw [hx] at ht
          simp only at ht
          split at ht
          · have h1 := opS_len ht
            have h2 : 0 < s.frs.length := List.length_pos_iff.2 hn
            exact List.length_pos_iff.1 (Nat.lt_of_lt_of_le h2 h1)
          · cases ht
        | err e d o =>
          rw [ht] at h
          simp only at h
          cases h
          rw [hs _ ht (fun d' o' e' => by cases e'; exact h5 _ _ rfl) (fun e => by cases e)]
          rfl
        | done t o =>
          rw [ht] at h
          simp only at h
          cases h
          rw [hs _ ht (fun _ _ e => by cases e) (fun e => by cases e)]
          rfl
end Go.Proofs.YtlobegpjenabaaaGreatDoor
