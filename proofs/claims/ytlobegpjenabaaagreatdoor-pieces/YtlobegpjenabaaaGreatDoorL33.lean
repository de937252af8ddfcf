/- Where the code of an expression lies. -/
import Derived.Test.YtlobegpjenabaaaGreatDoorL16
namespace Go.Proofs.YtlobegpjenabaaaGreatDoor
set_option linter.unusedSimpArgs false
set_option linter.unusedVariables false

mutual
/-- As the reader makes expressions. -/
def WfE : E → Prop
  | .const _ => True
  | .nothing => True
  | .var _ => True
  | .ite a b c => WfE a ∧ WfE b ∧ WfE c
  | .define _ a => WfE a
  | .set _ a => WfE a
  | .lambda _ xs a => xs.Nodup ∧ WfE a
  | .seq es => 2 ≤ es.length ∧ WfEs es
  | .apply es => 1 ≤ es.length ∧ WfEs es
def WfEs : List E → Prop
  | [] => True
  | e :: r => WfE e ∧ WfEs r
end
theorem wfs_append : ∀ (a b : List E), WfEs a → WfEs b → WfEs (a ++ b)
  | [], b, _, h => h
  | e :: r, b, h, k => ⟨h.1, wfs_append r b h.2 k⟩
theorem wf_each {f : D → Option E} (hf : ∀ d e, f d = some e → WfE e) : ∀ (ds : List D) (ks : List E), eachS f ds = some ks → WfEs ks ∧ ks.length = ds.length
  | [], ks, h => by cases h; exact ⟨trivial, rfl⟩
  | d :: r, ks, h => by
    simp only [eachS] at h
    split at h
    · rename_i e he
      split at h
      · rename_i es hes
        cases h
        have h2 := wf_each hf r es hes
        exact ⟨⟨hf d e he, h2.1⟩, by simp [h2.2]⟩
      · cases h
    · cases h
theorem wf_seqS : ∀ (ks : List E) (e : E), seqS ks = some e → WfEs ks → WfE e
  | [], e, h, _ => by cases h
  | [k], e, h, hw => by cases h; exact hw.1
  | a :: b :: r, e, h, hw => by cases h; exact ⟨by simp, hw⟩
theorem wf_body {f : D → Option E} (hf : ∀ d e, f d = some e → WfE e) (ds : List D) (e : E) (h : bodyS f ds = some e) : WfE e := by
  unfold bodyS at h
  cases hk : eachS f ds with
  | none => rw [hk] at h; cases h
  | some ks =>
    rw [hk] at h
    exact wf_seqS ks e h (wf_each hf ds ks hk).1
theorem varsL_nodup : ∀ (seen : List (List UInt8)) (nd : List D), varsL seen nd = true → seen.Nodup → (seen ++ nd.map nameD).Nodup
  | seen, [], _, h => by simpa using h
  | seen, d :: r, h, hs => by
    simp only [varsL, Bool.and_eq_true, Bool.not_eq_true'] at h
    have := varsL_nodup (seen ++ [nameD d]) r h.2 (by
      rw [List.nodup_append]
      refine ⟨hs, by simp, fun a ha b hb => ?_⟩
      simp at hb; subst hb
      rintro rfl
      have h2 := h.1.2
      rw [List.contains_eq_mem] at h2
      exact absurd ha (by simpa using h2))
    simpa using this
theorem wf_proc {f : D → Option E} (hf : ∀ d e, f d = some e → WfE e) (nd ds : List D) (e : E) (h : procS f nd ds = some e) : WfE e := by
  unfold procS at h
  split at h
  · rename_i hv
    cases hb : bodyS f ds with
    | none => rw [hb] at h; cases h
    | some k =>
      rw [hb] at h
      cases h
      exact ⟨by simpa using varsL_nodup [] nd hv (by simp), wf_body hf ds k hb⟩
  · cases h
theorem wf_asS (s : List UInt8) (e : E) (h : WfE e) : WfE (asS s e) := by cases e <;> exact h
theorem wf_nv {f : D → Option E} {mk : List UInt8 → E → E} (hmk : ∀ s e, WfE e → WfE (mk s e)) (hf : ∀ d e, f d = some e → WfE e) : ∀ (ds : List D) (e : E), nvS f mk ds = some e → WfE e
  | [x, a], e, h => by
    simp only [nvS] at h
    split at h
    · cases hk : f a with
      | none => rw [hk] at h; cases h
      | some k =>
        rw [hk] at h
        cases h
        exact hmk _ _ (hf a k hk)
    · cases h
  | [], e, h => by cases h
  | [_], e, h => by cases h
  | _ :: _ :: _ :: _, e, h => by cases h
theorem wf_exprS : ∀ (n : Nat) (d : D) (e : E), exprS n d = some e → WfE e
  | 0, d, e, h => by cases h
  | n + 1, .agg l, e, h => by
    have ih := wf_exprS n
    simp only [exprS] at h
    split at h
    · match hq : l.tail, h with
      | [q], h => cases h; exact trivial
      | [], h => cases h
      | _ :: _ :: _, h => cases h
    split at h
    · cases hk : eachS (exprS n) l.tail with
      | none => rw [hk] at h; cases h
      | some ks =>
        rw [hk] at h
        have h1 := (wf_each ih l.tail ks hk).1
        match ks, h with
        | [a, b], h => cases h; exact ⟨h1.1, h1.2.1, trivial⟩
        | [a, b, c], h => cases h; exact ⟨h1.1, h1.2.1, h1.2.2.1⟩
        | [], h => cases h
        | [_], h => cases h
        | _ :: _ :: _ :: _ :: _, h => cases h
    split at h
    · exact wf_nv (mk := .set) (fun _ _ h => h) ih l.tail e h
    split at h
    · match hl : l.tail, h with
      | q :: ds, h =>
        simp only [lamS] at h
        split at h
        · exact wf_proc ih _ _ e h
        · cases h
      | [], h => cases h
    split at h
    · exact wf_body ih l.tail e h
    split at h
    · match hl : l.tail, h with
      | q :: ds, h =>
        simp only [defS] at h
        split at h
        · match hd : itemsD q, h with
          | x :: xs, h =>
            simp only [dfpS] at h
            split at h
            · cases hp : procS (exprS n) xs ds with
              | none => rw [hp] at h; cases h
              | some k =>
                rw [hp] at h
                cases h
                exact wf_asS _ _ (wf_proc ih _ _ k hp)
            · cases h
          | [], h => cases h
        · exact wf_nv wf_asS ih (q :: ds) e h
      | [], h => cases h
    split at h
    · match hl : l.tail, h with
      | q :: ds, h =>
        simp only [letS] at h
        split at h
        · split at h
          · rename_i p es hp he
            cases h
            exact ⟨by simp, wf_proc ih _ _ p hp, (wf_each ih _ es he).1⟩
          · cases h
        · cases h
      | [], h => cases h
    split at h
    · cases h
    · rename_i hne
      cases hk : eachS (exprS n) l with
      | none => rw [hk] at h; cases h
      | some ks =>
        rw [hk] at h
        cases h
        have h1 := wf_each ih l ks hk
        refine ⟨?_, h1.1⟩
        rw [h1.2]
        cases l with
        | nil => exact absurd rfl hne
        | cons a r => simp
  | n + 1, .lit (.string s), e, h => by
    simp only [exprS] at h
    split at h
    · cases h
    · cases h; exact trivial
  | n + 1, .lit (.int k m), e, h => by cases h; exact trivial
  | n + 1, .lit (.bool b), e, h => by cases h; exact trivial
  | n + 1, .lit (.float a b), e, h => by cases h; exact trivial
  | n + 1, .lit .nil, e, h => by cases h; exact trivial
  | n + 1, .nil, e, h => by cases h; exact trivial
  | n + 1, .ptr _, e, h => by cases h; exact trivial
  | n + 1, .slice _ _, e, h => by cases h; exact trivial
  | n + 1, .iface _ _, e, h => by cases h; exact trivial
  | n + 1, .map _, e, h => by cases h; exact trivial
  | n + 1, .held _, e, h => by cases h; exact trivial

/-- What a builder's tables have the other's have too. -/
structure TabsB (a b : BS) : Prop where
  cs : ∀ (i : Nat) c, a.cs[i]? = some c → b.cs[i]? = some c
  ns : ∀ (i : Nat) c, a.ns[i]? = some c → b.ns[i]? = some c
  ls : ∀ (i : Nat) nm ns e, a.ls[i]? = some (nm, ns, e) → ∃ e', b.ls[i]? = some (nm, ns, e')
  bs : ∀ (i : Nat) c, a.bs[i]? = some c → b.bs[i]? = some c
theorem TabsB.refl (a : BS) : TabsB a a := ⟨fun _ _ h => h, fun _ _ h => h, fun _ _ _ e h => ⟨e, h⟩, fun _ _ h => h⟩
theorem TabsB.trans {a b c : BS} (h : TabsB a b) (k : TabsB b c) : TabsB a c := ⟨fun i x q => k.cs i x (h.cs i x q), fun i x q => k.ns i x (h.ns i x q), fun i nm ns e q => by
  obtain ⟨e', q'⟩ := h.ls i nm ns e q
  exact k.ls i nm ns e' q', fun i x q => k.bs i x (h.bs i x q)⟩
theorem get_snoc {α : Type} {l : List α} {i : Nat} {c x : α} (h : l[i]? = some c) : (l ++ [x])[i]? = some c := by
  have hi : i < l.length := by
    rcases Nat.lt_or_ge i l.length with h' | h'
    · exact h'
    · rw [List.getElem?_eq_none h'] at h; cases h
  rw [List.getElem?_append_left hi]; exact h
/-- The first is the second's beginning. -/
structure PreB (a b : BS) : Prop where
  len : a.is.length ≤ b.is.length
  is : ∀ i, i < a.is.length → b.is[i]? = a.is[i]?
  tb : TabsB a b
theorem PreB.refl (a : BS) : PreB a a := ⟨Nat.le_refl _, fun _ _ => rfl, TabsB.refl a⟩
theorem PreB.trans {a b c : BS} (h : PreB a b) (k : PreB b c) : PreB a c := ⟨Nat.le_trans h.len k.len, fun i hi => (k.is i (Nat.lt_of_lt_of_le hi h.len)).trans (h.is i hi), h.tb.trans k.tb⟩
theorem PreB.emit (a : BS) (op n : Int) : PreB a (emitS a op n) := ⟨by simp [emitS], fun i hi => by simp only [emitS]; rw [List.getElem?_append_left hi], ⟨fun _ _ h => h, fun _ _ h => h, fun _ _ _ e h => ⟨e, h⟩, fun _ _ h => h⟩⟩
theorem PreB.const (a : BS) (c : Option D) : PreB a (constS a c) := ⟨Nat.le_refl _, fun _ _ => rfl, fun _ _ h => get_snoc h, fun _ _ h => h, fun _ _ _ e h => ⟨e, h⟩, fun _ _ h => h⟩
theorem PreB.name (a : BS) (s : List UInt8) : PreB a (nameS a s) := ⟨Nat.le_refl _, fun _ _ => rfl, fun _ _ h => h, fun i c h => by
  simp only [nameS]
  split
  · exact h
  · exact get_snoc h, fun _ _ _ e h => ⟨e, h⟩, fun _ _ h => h⟩
theorem PreB.fin (a : BS) (last : Bool) : PreB a (endS a last) := by
  unfold endS
  split
  · exact PreB.emit a 13 0
  · exact PreB.refl a
theorem PreB.names : ∀ (xs : List (List UInt8)) (a : BS), PreB a (namesS a xs)
  | [], a => PreB.refl a
  | s :: r, a => (PreB.name a s).trans (PreB.names r _)
theorem PreB.lam (a : BS) (nm : List UInt8) (xs : List (List UInt8)) (e : E) : PreB a (lamBS a nm xs e) := by
  have h := PreB.names xs a
  obtain ⟨h1, h2, h3, h4, h5⟩ := namesS_same xs a
  exact ⟨h.len, h.is, h.tb.cs, h.tb.ns, fun i nm ns e q => ⟨e, get_snoc q⟩, fun i c q => get_snoc q⟩
theorem PreB.point {a b : BS} (h : PreB a b) (i : Nat) (hi : a.is.length ≤ i) : PreB a (pointS b i) := ⟨by simp only [pointS, List.length_set]; exact h.len, fun j hj => by
  simp only [pointS]
  rw [List.getElem?_set_ne (by omega)]
  exact h.is j hj, ⟨h.tb.cs, h.tb.ns, h.tb.ls, h.tb.bs⟩⟩
mutual
theorem pre_put : ∀ (e : E) (last : Bool) (st : BS), PreB st (putS e last st)
  | .const d, last, st => ((PreB.const st _).trans (PreB.emit _ _ _)).trans (PreB.fin _ _)
  | .nothing, last, st => ((PreB.const st _).trans (PreB.emit _ _ _)).trans (PreB.fin _ _)
  | .var s, last, st => ((PreB.name st _).trans (PreB.emit _ _ _)).trans (PreB.fin _ _)
  | .lambda nm xs a, last, st => ((PreB.lam st _ _ _).trans (PreB.emit _ _ _)).trans (PreB.fin _ _)
  | .define s a, last, st => by
    have h := ((PreB.emit st 4 0).trans (pre_put a false (emitS st 4 0))).point st.is.length (Nat.le_refl _)
    exact ((h.trans (PreB.name _ _)).trans (PreB.emit _ _ _)).trans (PreB.fin _ _)
  | .set s a, last, st => by
    have h := ((PreB.emit st 4 0).trans (pre_put a false (emitS st 4 0))).point st.is.length (Nat.le_refl _)
    exact ((h.trans (PreB.name _ _)).trans (PreB.emit _ _ _)).trans (PreB.fin _ _)
  | .ite a b c, last, st => by
    have h := ((PreB.emit st 4 0).trans (pre_put a false (emitS st 4 0))).point st.is.length (Nat.le_refl _)
    have h2 := ((PreB.emit (pointS (putS a false (emitS st 4 0)) st.is.length) 8 0).trans (pre_put b true _)).point (pointS (putS a false (emitS st 4 0)) st.is.length).is.length (Nat.le_refl _)
    exact (h.trans h2).trans (pre_put c true _)
  | .seq es, last, st => pre_seq es 4 last st
  | .apply es, last, st => ((pre_app es 4 st).trans (PreB.emit _ _ _)).trans (PreB.emit _ _ _)
theorem pre_seq : ∀ (es : List E) (op : Int) (last : Bool) (st : BS), PreB st (seqP es op last st)
  | [], op, last, st => PreB.refl st
  | [e], op, last, st => (PreB.emit st 7 0).trans (pre_put e last _)
  | e :: e2 :: r, op, last, st => by
    have h := ((PreB.emit st op 0).trans (pre_put e false (emitS st op 0))).point st.is.length (Nat.le_refl _)
    exact h.trans (pre_seq (e2 :: r) 6 last _)
theorem pre_app : ∀ (es : List E) (op : Int) (st : BS), PreB st (appP es op st)
  | [], op, st => PreB.refl st
  | e :: r, op, st => by
    have h := ((PreB.emit st op 0).trans (pre_put e false (emitS st op 0))).point st.is.length (Nat.le_refl _)
    exact h.trans (pre_app r 5 _)
end

/-- A builder as it grows: a body for each lambda, no name twice. -/
structure InvB (st : BS) : Prop where
  lb : st.ls.length = st.bs.length
  nd : st.ns.Nodup
theorem InvB.emit {a : BS} (h : InvB a) (op n : Int) : InvB (emitS a op n) := ⟨h.lb, h.nd⟩
theorem InvB.const {a : BS} (h : InvB a) (c : Option D) : InvB (constS a c) := ⟨h.lb, h.nd⟩
theorem InvB.point {a : BS} (h : InvB a) (i : Nat) : InvB (pointS a i) := ⟨h.lb, h.nd⟩
theorem InvB.name {a : BS} (h : InvB a) (s : List UInt8) : InvB (nameS a s) := by
  refine ⟨h.lb, ?_⟩
  simp only [nameS]
  split
  · exact h.nd
  · rename_i hc
    rw [List.nodup_append]
    refine ⟨h.nd, by simp, fun x hx y hy => ?_⟩
    simp at hy; subst hy
    rintro rfl
    rw [List.contains_eq_mem] at hc
    exact hc (by simpa using hx)
theorem InvB.fin {a : BS} (h : InvB a) (last : Bool) : InvB (endS a last) := by
  unfold endS
  split
  · exact h.emit 13 0
  · exact h
theorem InvB.names : ∀ (xs : List (List UInt8)) {a : BS}, InvB a → InvB (namesS a xs)
  | [], a, h => h
  | s :: r, a, h => InvB.names r (h.name s)
theorem InvB.lam {a : BS} (h : InvB a) (nm : List UInt8) (xs : List (List UInt8)) (e : E) : InvB (lamBS a nm xs e) := by
  refine ⟨?_, (InvB.names xs h).nd⟩
  have := h.lb
  simp [lamBS]; omega
mutual
theorem inv_put : ∀ (e : E) (last : Bool) (st : BS), InvB st → InvB (putS e last st)
  | .const d, last, st, h => ((h.const _).emit _ _).fin _
  | .nothing, last, st, h => ((h.const _).emit _ _).fin _
  | .var s, last, st, h => ((h.name _).emit _ _).fin _
  | .lambda nm xs a, last, st, h => ((h.lam _ _ _).emit _ _).fin _
  | .define s a, last, st, h => ((((inv_put a false _ (h.emit 4 0)).point _).name _).emit _ _).fin _
  | .set s a, last, st, h => ((((inv_put a false _ (h.emit 4 0)).point _).name _).emit _ _).fin _
  | .ite a b c, last, st, h => inv_put c true _ ((inv_put b true _ (((inv_put a false _ (h.emit 4 0)).point _).emit 8 0)).point _)
  | .seq es, last, st, h => inv_seq es 4 last st h
  | .apply es, last, st, h => ((inv_app es 4 st h).emit _ _).emit _ _
theorem inv_seq : ∀ (es : List E) (op : Int) (last : Bool) (st : BS), InvB st → InvB (seqP es op last st)
  | [], op, last, st, h => h
  | [e], op, last, st, h => inv_put e last _ (h.emit 7 0)
  | e :: e2 :: r, op, last, st, h => inv_seq (e2 :: r) 6 last _ ((inv_put e false _ (h.emit op 0)).point _)
theorem inv_app : ∀ (es : List E) (op : Int) (st : BS), InvB st → InvB (appP es op st)
  | [], op, st, h => h
  | e :: r, op, st, h => inv_app r 5 _ ((inv_put e false _ (h.emit op 0)).point _)
end
mutual
/-- What the bodies weigh that join. -/
theorem bsw_put : ∀ (e : E) (last : Bool) (st : BS), wtEs (putS e last st).bs + 1 ≤ wtEs st.bs + wtE e
  | .const d, last, st => by have : (putS (.const d) last st).bs = st.bs := by cases last <;> rfl
                             rw [this]; simp only [wtE]; omega
  | .nothing, last, st => by have : (putS .nothing last st).bs = st.bs := by cases last <;> rfl
                             rw [this]; simp only [wtE]; omega
  | .var s, last, st => by have : (putS (.var s) last st).bs = st.bs := by cases last <;> rfl
                           rw [this]; simp only [wtE]; omega
  | .lambda nm xs a, last, st => by have : (putS (.lambda nm xs a) last st).bs = st.bs ++ [a] := by cases last <;> rfl
                                    rw [this, wtEs_append]; simp only [wtE, wtEs]; omega
  | .define s a, last, st => by
    have : (putS (.define s a) last st).bs = (putS a false (emitS st 4 0)).bs := by cases last <;> rfl
    have h := bsw_put a false (emitS st 4 0)
    have h2 : (emitS st 4 0).bs = st.bs := rfl
    rw [this]; simp only [wtE]; rw [h2] at h; omega
  | .set s a, last, st => by
    have : (putS (.set s a) last st).bs = (putS a false (emitS st 4 0)).bs := by cases last <;> rfl
    have h := bsw_put a false (emitS st 4 0)
    have h2 : (emitS st 4 0).bs = st.bs := rfl
    rw [this]; simp only [wtE]; rw [h2] at h; omega
  | .ite a b c, last, st => by
    have h1 := bsw_put a false (emitS st 4 0)
    have h2 := bsw_put b true (emitS (pointS (putS a false (emitS st 4 0)) st.is.length) 8 0)
    have h3 := bsw_put c true (pointS (putS b true (emitS (pointS (putS a false (emitS st 4 0)) st.is.length) 8 0)) (pointS (putS a false (emitS st 4 0)) st.is.length).is.length)
    have e1 : (emitS st 4 0).bs = st.bs := rfl
    have e2 : (emitS (pointS (putS a false (emitS st 4 0)) st.is.length) 8 0).bs = (putS a false (emitS st 4 0)).bs := rfl
    have e3 : (pointS (putS b true (emitS (pointS (putS a false (emitS st 4 0)) st.is.length) 8 0)) (pointS (putS a false (emitS st 4 0)) st.is.length).is.length).bs = (putS b true (emitS (pointS (putS a false (emitS st 4 0)) st.is.length) 8 0)).bs := rfl
    rw [e1] at h1; rw [e2] at h2; rw [e3] at h3
    simp only [putS, wtE]; omega
  | .seq es, last, st => by
    have := bsw_seq es 4 last st
    simp only [putS, wtE]; omega
  | .apply es, last, st => by
    have := bsw_app es 4 st
    have e1 : (putS (.apply es) last st).bs = (appP es 4 st).bs := rfl
    rw [e1]; simp only [wtE]; omega
theorem bsw_seq : ∀ (es : List E) (op : Int) (last : Bool) (st : BS), wtEs (seqP es op last st).bs ≤ wtEs st.bs + wtEs es
  | [], op, last, st => by simp only [seqP]; omega
  | [e], op, last, st => by
    have := bsw_put e last (emitS st 7 0)
    have e1 : (emitS st 7 0).bs = st.bs := rfl
    rw [e1] at this
    simp only [seqP, wtEs]; omega
  | e :: e2 :: r, op, last, st => by
    have h1 := bsw_put e false (emitS st op 0)
    have h2 := bsw_seq (e2 :: r) 6 last (pointS (putS e false (emitS st op 0)) st.is.length)
    have e1 : (emitS st op 0).bs = st.bs := rfl
    have e2 : (pointS (putS e false (emitS st op 0)) st.is.length).bs = (putS e false (emitS st op 0)).bs := rfl
    rw [e1] at h1; rw [e2] at h2
    simp only [seqP, wtEs] at *; omega
theorem bsw_app : ∀ (es : List E) (op : Int) (st : BS), wtEs (appP es op st).bs ≤ wtEs st.bs + wtEs es
  | [], op, st => by simp only [appP]; omega
  | e :: r, op, st => by
    have h1 := bsw_put e false (emitS st op 0)
    have h2 := bsw_app r 5 (pointS (putS e false (emitS st op 0)) st.is.length)
    have e1 : (emitS st op 0).bs = st.bs := rfl
    have e2 : (pointS (putS e false (emitS st op 0)) st.is.length).bs = (putS e false (emitS st op 0)).bs := rfl
    rw [e1] at h1; rw [e2] at h2
    simp only [appP, wtEs] at *; omega
end

/-- From place i0 on the code is in z, and what its tables have. -/
structure SubB (i0 : Nat) (t z : BS) : Prop where
  is : ∀ i, i0 ≤ i → i < t.is.length → z.is[i]? = t.is[i]?
  tb : TabsB t z
theorem SubB.pre {i0 : Nat} {a b z : BS} (h : SubB i0 b z) (p : PreB a b) : SubB i0 a z := ⟨fun i h0 hi => (h.is i h0 (Nat.lt_of_lt_of_le hi p.len)).trans (p.is i hi), p.tb.trans h.tb⟩
theorem SubB.from {i0 j0 : Nat} {a z : BS} (h : SubB i0 a z) (hj : i0 ≤ j0) : SubB j0 a z := ⟨fun i h0 hi => h.is i (Nat.le_trans hj h0) hi, h.tb⟩
theorem SubB.emit {i0 : Nat} {a z : BS} {op n : Int} (h : SubB i0 (emitS a op n) z) (hi : i0 ≤ a.is.length) : z.is[a.is.length]? = some (op, n) := by
  rw [h.is _ hi (by simp [emitS])]
  simp [emitS]
theorem SubB.point {i0 j : Nat} {a z : BS} (h : SubB i0 (pointS a j) z) (hi : i0 ≤ j) (hj : j < a.is.length) : z.is[j]? = some ((a.is.getD j (0, 0)).1, (a.is.length : Int)) ∧ SubB (j + 1) a z := by
  refine ⟨?_, fun i h0 hi' => ?_, ⟨h.tb.cs, h.tb.ns, h.tb.ls, h.tb.bs⟩⟩
  · rw [h.is _ hi (by simp only [pointS, List.length_set]; exact hj)]
    simp only [pointS]
    rw [List.getElem?_set_self hj]
  · rw [h.is i (by omega) (by simp only [pointS, List.length_set]; exact hi')]
    simp only [pointS]
    rw [List.getElem?_set_ne (by omega)]
theorem nameS_num (a : BS) (s : List UInt8) : (nameS a s).ns[numS a s]? = some s := by
  unfold nameS numS
  simp only
  by_cases h : a.ns.contains s = true
  · rw [if_pos h]
    rw [List.contains_eq_mem] at h
    have hm : s ∈ a.ns := by simpa using h
    rw [List.getElem?_eq_getElem (List.idxOf_lt_length_of_mem hm), List.getElem_idxOf]
  · rw [if_neg h]
    rw [List.contains_eq_mem] at h
    have hm : s ∉ a.ns := by simpa using h
    rw [List.idxOf_eq_length hm]
    simp
/-- Behind an expression: a return, or the place q. -/
def Lnd (z : BS) (p : Nat) : Option Nat → Prop
  | none => z.is[p]? = some (13, 0)
  | some q => p = q
theorem SubB.fin {i0 : Nat} {a z : BS} {last : Bool} (h : SubB i0 (endS a last) z) (hi : i0 ≤ a.is.length) : Lnd z a.is.length (if last then none else some (endS a last).is.length) := by
  cases last with
  | true => exact SubB.emit (show SubB i0 (emitS a 13 0) z from h) hi
  | false => rfl
/-- The numbers of these names. -/
def NumR (z : BS) : List Nat → List (List UInt8) → Prop
  | [], [] => True
  | n :: ns, s :: r => z.ns[n]? = some s ∧ NumR z ns r
  | _, _ => False
theorem names_num : ∀ (xs : List (List UInt8)) (a z : BS), (∀ (i : Nat) c, (namesS a xs).ns[i]? = some c → z.ns[i]? = some c) → NumR z (numsS a xs) xs
  | [], a, z, _ => trivial
  | s :: r, a, z, h => ⟨h _ _ ((PreB.names r (nameS a s)).tb.ns _ _ (nameS_num a s)), names_num r (nameS a s) z h⟩
theorem emit_len (a : BS) (op n : Int) : (emitS a op n).is.length = a.is.length + 1 := by simp [emitS]
theorem point_len (a : BS) (i : Nat) : (pointS a i).is.length = a.is.length := by simp [pointS]

mutual
/-- At p there is the code of an expression; behind it J. -/
def At (z : BS) : E → Nat → Option Nat → Prop
  | .const d, p, J => (∃ n : Nat, z.is[p]? = some (1, (n : Int)) ∧ z.cs[n]? = some (some d)) ∧ Lnd z (p + 1) J
  | .nothing, p, J => (∃ n : Nat, z.is[p]? = some (1, (n : Int)) ∧ z.cs[n]? = some none) ∧ Lnd z (p + 1) J
  | .var s, p, J => (∃ n : Nat, z.is[p]? = some (2, (n : Int)) ∧ z.ns[n]? = some s) ∧ Lnd z (p + 1) J
  | .lambda nm xs a, p, J => (∃ (l : Nat) (ns : List Nat) (e : Nat), z.is[p]? = some (3, (l : Int)) ∧ z.ls[l]? = some (nm, ns, e) ∧ NumR z ns xs ∧ z.bs[l]? = some a) ∧ Lnd z (p + 1) J
  | .define s a, p, J => ∃ r n : Nat, p < r ∧ z.is[p]? = some (4, (r : Int)) ∧ At z a (p + 1) (some r) ∧ z.is[r]? = some (9, (n : Int)) ∧ z.ns[n]? = some s ∧ Lnd z (r + 1) J
  | .set s a, p, J => ∃ r n : Nat, p < r ∧ z.is[p]? = some (4, (r : Int)) ∧ At z a (p + 1) (some r) ∧ z.is[r]? = some (10, (n : Int)) ∧ z.ns[n]? = some s ∧ Lnd z (r + 1) J
  | .ite a b c, p, _ => ∃ r t : Nat, p < r ∧ z.is[p]? = some (4, (r : Int)) ∧ At z a (p + 1) (some r) ∧ z.is[r]? = some (8, (t : Int)) ∧ At z b (r + 1) none ∧ At z c t none
  | .seq es, p, J => SeqA z es 4 p J
  | .apply es, p, _ => AppA z es 4 p
def SeqA (z : BS) : List E → Int → Nat → Option Nat → Prop
  | [], _, _, _ => False
  | [e], _, p, J => z.is[p]? = some (7, 0) ∧ At z e (p + 1) J
  | e :: r, op, p, J => ∃ t : Nat, p < t ∧ z.is[p]? = some (op, (t : Int)) ∧ At z e (p + 1) (some t) ∧ SeqA z r 6 t J
def AppA (z : BS) : List E → Int → Nat → Prop
  | [], _, p => z.is[p]? = some (11, 0) ∧ z.is[p + 1]? = some (12, 0)
  | e :: r, op, p => ∃ t : Nat, p < t ∧ z.is[p]? = some (op, (t : Int)) ∧ At z e (p + 1) (some t) ∧ AppA z r 5 t
end
/-- What a part within comes to. -/
theorem with_at {i0 : Nat} {e : E} {op : Int} {st z : BS} {last : Bool} (hi : i0 ≤ st.is.length) (h : SubB i0 (pointS (putS e last (emitS st op 0)) st.is.length) z) : st.is.length < (putS e last (emitS st op 0)).is.length ∧ z.is[st.is.length]? = some (op, ((putS e last (emitS st op 0)).is.length : Int)) ∧ SubB (st.is.length + 1) (putS e last (emitS st op 0)) z := by
  have hp := pre_put e last (emitS st op 0)
  have hl := hp.len
  rw [emit_len] at hl
  have h1 := h.point hi (by omega)
  refine ⟨by omega, ?_, h1.2⟩
  rw [h1.1]
  have h2 := hp.is st.is.length (by rw [emit_len]; omega)
  rw [List.getD_eq_getElem?_getD, h2]
  simp [emitS]
mutual
theorem put_at : ∀ (e : E) (last : Bool) (st z : BS), InvB st → WfE e → SubB st.is.length (putS e last st) z → At z e st.is.length (if last then none else some (putS e last st).is.length)
  | .const d, last, st, z, hv, _, h => by
    have h1 := h.pre (PreB.fin _ _)
    have h2 := h1.emit (a := constS st (some d)) (Nat.le_refl _)
    refine ⟨⟨st.cs.length, h2, (h1.pre (PreB.emit _ _ _)).tb.cs _ _ (by simp [constS])⟩, ?_⟩
    have h3 := h.fin (by rw [emit_len]; simp only [constS]; omega)
    rw [emit_len] at h3
    exact h3
  | .nothing, last, st, z, hv, _, h => by
    have h1 := h.pre (PreB.fin _ _)
    have h2 := h1.emit (a := constS st none) (Nat.le_refl _)
    refine ⟨⟨st.cs.length, h2, (h1.pre (PreB.emit _ _ _)).tb.cs _ _ (by simp [constS])⟩, ?_⟩
    have h3 := h.fin (by rw [emit_len]; simp only [constS]; omega)
    rw [emit_len] at h3
    exact h3
  | .var s, last, st, z, hv, _, h => by
    have h1 := h.pre (PreB.fin _ _)
    have h2 := h1.emit (a := nameS st s) (Nat.le_refl _)
    refine ⟨⟨numS st s, h2, (h1.pre (PreB.emit _ _ _)).tb.ns _ _ (nameS_num st s)⟩, ?_⟩
    have h3 := h.fin (by rw [emit_len]; simp only [nameS]; omega)
    rw [emit_len] at h3
    exact h3
  | .lambda nm xs a, last, st, z, hv, hw, h => by
    have hs := namesS_same xs st
    have hli : (lamBS st nm xs a).is.length = st.is.length := by simp [lamBS, hs.1]
    have h1 := h.pre (PreB.fin _ _)
    have h2 := h1.emit (a := lamBS st nm xs a) (by omega)
    rw [hli] at h2
    have h4 := (h1.pre (PreB.emit _ _ _)).tb
    have h3 := h.fin (by rw [emit_len, hli]; omega)
    rw [emit_len, hli] at h3
    refine ⟨?_, h3⟩
    obtain ⟨e', h5⟩ := h4.ls st.ls.length nm (numsS st xs) 0 (by simp [lamBS])
    refine ⟨st.bs.length, numsS st xs, e', h2, by rw [← hv.lb]; exact h5, names_num xs st z (fun i c q => h4.ns i c q), h4.bs _ _ (by simp [lamBS])⟩
  | .define s a, last, st, z, hv, hw, h => by
    have h1 := h.pre (PreB.fin _ _)
    have h2 := h1.pre (PreB.emit _ _ _)
    have h3 := h2.pre (PreB.name _ _)
    obtain ⟨a1, a2, a3⟩ := with_at (Nat.le_refl _) h3
    have h4 := h1.emit (by simp only [nameS, point_len]; omega)
    have h5 := h.fin (by rw [emit_len]; simp only [nameS, point_len]; omega)
    rw [emit_len] at h5
    simp only [nameS, point_len] at h4 h5
    have h6 := put_at a false (emitS st 4 0) z (hv.emit 4 0) hw (by rw [emit_len]; exact a3)
    rw [emit_len] at h6
    exact ⟨_, _, a1, a2, h6, h4, h2.tb.ns _ _ (nameS_num _ s), h5⟩
  | .set s a, last, st, z, hv, hw, h => by
    have h1 := h.pre (PreB.fin _ _)
    have h2 := h1.pre (PreB.emit _ _ _)
    have h3 := h2.pre (PreB.name _ _)
    obtain ⟨a1, a2, a3⟩ := with_at (Nat.le_refl _) h3
    have h4 := h1.emit (by simp only [nameS, point_len]; omega)
    have h5 := h.fin (by rw [emit_len]; simp only [nameS, point_len]; omega)
    rw [emit_len] at h5
    simp only [nameS, point_len] at h4 h5
    have h6 := put_at a false (emitS st 4 0) z (hv.emit 4 0) hw (by rw [emit_len]; exact a3)
    rw [emit_len] at h6
    exact ⟨_, _, a1, a2, h6, h4, h2.tb.ns _ _ (nameS_num _ s), h5⟩
  | .ite a b c, last, st, z, hv, hw, h => by
    have h0 : SubB st.is.length (putS c true (pointS (putS b true (emitS (pointS (putS a false (emitS st 4 0)) st.is.length) 8 0)) (pointS (putS a false (emitS st 4 0)) st.is.length).is.length)) z := h
    have h1 := h0.pre (pre_put c true _)
    have hle := ((PreB.emit st 4 0).trans (pre_put a false (emitS st 4 0))).len
    obtain ⟨b1, b2, b3⟩ := with_at (st := pointS (putS a false (emitS st 4 0)) st.is.length) (by rw [point_len]; omega) h1
    have h2 := h1.pre (((PreB.emit (pointS (putS a false (emitS st 4 0)) st.is.length) 8 0).trans (pre_put b true _)).point _ (Nat.le_refl _))
    obtain ⟨a1, a2, a3⟩ := with_at (Nat.le_refl _) h2
    rw [point_len] at b1 b2 b3
    have h6 := put_at a false (emitS st 4 0) z (hv.emit 4 0) hw.1 (by rw [emit_len]; exact a3)
    rw [emit_len] at h6
    have h7 := put_at b true (emitS (pointS (putS a false (emitS st 4 0)) st.is.length) 8 0) z (((inv_put a false _ (hv.emit 4 0)).point _).emit 8 0) hw.2.1 (by rw [emit_len, point_len]; exact b3)
    rw [emit_len, point_len] at h7
    have h8 := put_at c true _ z ((inv_put b true _ (((inv_put a false _ (hv.emit 4 0)).point _).emit 8 0)).point _) hw.2.2 (h0.from (by rw [point_len]; omega))
    rw [point_len] at h8
    exact ⟨_, _, a1, a2, h6, b2, h7, h8⟩
  | .seq es, last, st, z, hv, hw, h => seq_at es 4 last st z hv (by intro e; rw [e] at hw; exact absurd hw.1 (by simp)) hw.2 h
  | .apply es, last, st, z, hv, hw, h => by
    have h0 : SubB st.is.length (emitS (emitS (appP es 4 st) 11 0) 12 0) z := h
    have hl := (pre_app es 4 st).len
    have h1 := h0.pre (PreB.emit _ _ _)
    have h2 := h0.emit (by rw [emit_len]; omega)
    have h3 := h1.emit (by omega)
    rw [emit_len] at h2
    exact app_at es 4 st z hv hw.2 (h1.pre (PreB.emit _ _ _)) h3 h2
theorem seq_at : ∀ (es : List E) (op : Int) (last : Bool) (st z : BS), InvB st → es ≠ [] → WfEs es → SubB st.is.length (seqP es op last st) z → SeqA z es op st.is.length (if last then none else some (seqP es op last st).is.length)
  | [], op, last, st, z, _, hne, _, h => absurd rfl hne
  | [e], op, last, st, z, hv, _, hw, h => by
    have h0 : SubB st.is.length (putS e last (emitS st 7 0)) z := h
    have h1 := (h0.pre (pre_put e last _)).emit (Nat.le_refl _)
    have h2 := put_at e last (emitS st 7 0) z (hv.emit 7 0) hw.1 (h0.from (by rw [emit_len]; omega))
    rw [emit_len] at h2
    exact ⟨h1, h2⟩
  | e :: e2 :: r, op, last, st, z, hv, _, hw, h => by
    have h0 : SubB st.is.length (seqP (e2 :: r) 6 last (pointS (putS e false (emitS st op 0)) st.is.length)) z := h
    obtain ⟨a1, a2, a3⟩ := with_at (Nat.le_refl _) (h0.pre (pre_seq (e2 :: r) 6 last _))
    have h6 := put_at e false (emitS st op 0) z (hv.emit op 0) hw.1 (by rw [emit_len]; exact a3)
    rw [emit_len] at h6
    have h7 := seq_at (e2 :: r) 6 last (pointS (putS e false (emitS st op 0)) st.is.length) z ((inv_put e false _ (hv.emit op 0)).point _) (by simp) hw.2 (h0.from (by rw [point_len]; omega))
    rw [point_len] at h7
    exact ⟨_, a1, a2, h6, h7⟩
theorem app_at : ∀ (es : List E) (op : Int) (st z : BS), InvB st → WfEs es → SubB st.is.length (appP es op st) z → z.is[(appP es op st).is.length]? = some (11, 0) → z.is[(appP es op st).is.length + 1]? = some (12, 0) → AppA z es op st.is.length
  | [], op, st, z, _, _, h, k1, k2 => ⟨k1, k2⟩
  | e :: r, op, st, z, hv, hw, h, k1, k2 => by
    have h0 : SubB st.is.length (appP r 5 (pointS (putS e false (emitS st op 0)) st.is.length)) z := h
    obtain ⟨a1, a2, a3⟩ := with_at (Nat.le_refl _) (h0.pre (pre_app r 5 _))
    have h6 := put_at e false (emitS st op 0) z (hv.emit op 0) hw.1 (by rw [emit_len]; exact a3)
    rw [emit_len] at h6
    have h7 := app_at r 5 (pointS (putS e false (emitS st op 0)) st.is.length) z ((inv_put e false _ (hv.emit op 0)).point _) hw.2 (h0.from (by rw [point_len]; omega)) k1 k2
    rw [point_len] at h7
    exact ⟨_, a1, a2, h6, h7⟩
end
/-- The forms' code, from p on. -/
def FormsA (z : BS) : List E → Nat → Prop
  | [], p => z.is[p]? = some (14, 0)
  | e :: r, p => ∃ t : Nat, p < t ∧ z.is[p]? = some (0, (t : Int)) ∧ At z e (p + 1) none ∧ FormsA z r t
theorem pre_form (e : E) (st : BS) : PreB st (formS e st) := ((PreB.emit st 0 0).trans (pre_put e true _)).point _ (Nat.le_refl _)
theorem pre_forms : ∀ (es : List E) (st : BS), PreB st (formsS es st)
  | [], st => PreB.refl st
  | e :: r, st => (pre_form e st).trans (pre_forms r _)
theorem inv_form (e : E) (st : BS) (h : InvB st) : InvB (formS e st) := (inv_put e true _ (h.emit 0 0)).point _
theorem inv_forms : ∀ (es : List E) (st : BS), InvB st → InvB (formsS es st)
  | [], st, h => h
  | e :: r, st, h => inv_forms r _ (inv_form e st h)
theorem forms_at : ∀ (es : List E) (st z : BS), InvB st → WfEs es → SubB st.is.length (formsS es st) z → z.is[(formsS es st).is.length]? = some (14, 0) → FormsA z es st.is.length
  | [], st, z, _, _, h, k => k
  | e :: r, st, z, hv, hw, h, k => by
    have h0 : SubB st.is.length (formsS r (formS e st)) z := h
    obtain ⟨a1, a2, a3⟩ := with_at (Nat.le_refl _) (h0.pre (pre_forms r _))
    have h6 := put_at e true (emitS st 0 0) z (hv.emit 0 0) hw.1 (by rw [emit_len]; exact a3)
    rw [emit_len] at h6
    have hl : (formS e st).is.length = (putS e true (emitS st 0 0)).is.length := point_len _ _
    have h7 := forms_at r (formS e st) z (inv_form e st hv) hw.2 (h0.from (by rw [hl]; omega)) k
    rw [hl] at h7
    exact ⟨_, a1, a2, h6, h7⟩
theorem bsw_forms : ∀ (es : List E) (st : BS), wtEs (formsS es st).bs ≤ wtEs st.bs + wtEs es
  | [], st => by simp only [formsS]; omega
  | e :: r, st => by
    have h1 := bsw_put e true (emitS st 0 0)
    have h2 := bsw_forms r (formS e st)
    have e1 : (emitS st 0 0).bs = st.bs := rfl
    have e2 : (formS e st).bs = (putS e true (emitS st 0 0)).bs := rfl
    rw [e1] at h1; rw [e2] at h2
    simp only [formsS, wtEs] at *; omega
/-- The code of all bodies is where their lambdas say. -/
def BodA (z : BS) : Prop := ∀ (l : Nat) (nm : List UInt8) (ns : List Nat) (e : Nat) (a : E), z.ls[l]? = some (nm, ns, e) → z.bs[l]? = some a → At z a e none
theorem InvB.entry {a : BS} (h : InvB a) (i : Nat) : InvB (entryS a i) := ⟨by simp [entryS, h.lb], h.nd⟩
theorem PreB.entry (a : BS) (i : Nat) : PreB a (entryS a i) := by
  refine ⟨Nat.le_refl _, fun _ _ => rfl, fun _ _ h => h, fun _ _ h => h, fun j nm ns e h => ?_, fun _ _ h => h⟩
  simp only [entryS]
  by_cases hj : i = j
  · subst hj
    have hl : i < a.ls.length := by
      rcases Nat.lt_or_ge i a.ls.length with h' | h'
      · exact h'
      · rw [List.getElem?_eq_none h'] at h; cases h
    exact ⟨a.is.length, by rw [List.getElem?_set_self hl, List.getD_eq_getElem?_getD, h]; rfl⟩
  · exact ⟨e, by rw [List.getElem?_set_ne hj]; exact h⟩
theorem fin_ls (a : BS) (last : Bool) : (endS a last).ls = a.ls := by cases last <;> rfl
mutual
theorem ls_put : ∀ (e : E) (last : Bool) (st : BS), ∃ x, (putS e last st).ls = st.ls ++ x
  | .const d, last, st => ⟨[], by simp only [putS, fin_ls]; simp [emitS, constS]⟩
  | .nothing, last, st => ⟨[], by simp only [putS, fin_ls]; simp [emitS, constS]⟩
  | .var s, last, st => ⟨[], by simp only [putS, fin_ls]; simp [emitS, nameS]⟩
  | .lambda nm xs a, last, st => ⟨[(nm, numsS st xs, 0)], by simp only [putS, fin_ls]; simp [emitS, lamBS]⟩
  | .define s a, last, st => by
    obtain ⟨x, hx⟩ := ls_put a false (emitS st 4 0)
    exact ⟨x, by simp only [putS, fin_ls]; simp only [emitS, nameS, pointS] at hx ⊢; exact hx⟩
  | .set s a, last, st => by
    obtain ⟨x, hx⟩ := ls_put a false (emitS st 4 0)
    exact ⟨x, by simp only [putS, fin_ls]; simp only [emitS, nameS, pointS] at hx ⊢; exact hx⟩
  | .ite a b c, last, st => by
    obtain ⟨x, hx⟩ := ls_put a false (emitS st 4 0)
    obtain ⟨y, hy⟩ := ls_put b true (emitS (pointS (putS a false (emitS st 4 0)) st.is.length) 8 0)
    obtain ⟨u, hu⟩ := ls_put c true (pointS (putS b true (emitS (pointS (putS a false (emitS st 4 0)) st.is.length) 8 0)) (pointS (putS a false (emitS st 4 0)) st.is.length).is.length)
    have e1 : (emitS st 4 0).ls = st.ls := rfl
    have e2 : (emitS (pointS (putS a false (emitS st 4 0)) st.is.length) 8 0).ls = (putS a false (emitS st 4 0)).ls := rfl
    have e3 : (pointS (putS b true (emitS (pointS (putS a false (emitS st 4 0)) st.is.length) 8 0)) (pointS (putS a false (emitS st 4 0)) st.is.length).is.length).ls = (putS b true (emitS (pointS (putS a false (emitS st 4 0)) st.is.length) 8 0)).ls := rfl
    rw [e1] at hx; rw [e2, hx] at hy; rw [e3, hy] at hu
    exact ⟨x ++ (y ++ u), by simp only [putS]; rw [hu]; simp⟩
  | .seq es, last, st => ls_seq es 4 last st
  | .apply es, last, st => ls_app es 4 st
theorem ls_seq : ∀ (es : List E) (op : Int) (last : Bool) (st : BS), ∃ x, (seqP es op last st).ls = st.ls ++ x
  | [], op, last, st => ⟨[], by simp [seqP]⟩
  | [e], op, last, st => ls_put e last (emitS st 7 0)
  | e :: e2 :: r, op, last, st => by
    obtain ⟨x, hx⟩ := ls_put e false (emitS st op 0)
    obtain ⟨y, hy⟩ := ls_seq (e2 :: r) 6 last (pointS (putS e false (emitS st op 0)) st.is.length)
    have e1 : (emitS st op 0).ls = st.ls := rfl
    have e2 : (pointS (putS e false (emitS st op 0)) st.is.length).ls = (putS e false (emitS st op 0)).ls := rfl
    rw [e1] at hx; rw [e2, hx] at hy
    exact ⟨x ++ y, by simp only [seqP]; rw [hy]; simp⟩
theorem ls_app : ∀ (es : List E) (op : Int) (st : BS), ∃ x, (appP es op st).ls = st.ls ++ x
  | [], op, st => ⟨[], by simp [appP]⟩
  | e :: r, op, st => by
    obtain ⟨x, hx⟩ := ls_put e false (emitS st op 0)
    obtain ⟨y, hy⟩ := ls_app r 5 (pointS (putS e false (emitS st op 0)) st.is.length)
    have e1 : (emitS st op 0).ls = st.ls := rfl
    have e2 : (pointS (putS e false (emitS st op 0)) st.is.length).ls = (putS e false (emitS st op 0)).ls := rfl
    rw [e1] at hx; rw [e2, hx] at hy
    exact ⟨x ++ y, by simp only [appP]; rw [hy]; simp⟩
end
mutual
/-- The bodies that join are as they should be. -/
theorem wfb_put : ∀ (e : E) (last : Bool) (st : BS), WfE e → WfEs st.bs → WfEs (putS e last st).bs
  | .const d, last, st, _, h => by have : (putS (.const d) last st).bs = st.bs := by cases last <;> rfl
                                   rw [this]; exact h
  | .nothing, last, st, _, h => by have : (putS .nothing last st).bs = st.bs := by cases last <;> rfl
                                   rw [this]; exact h
  | .var s, last, st, _, h => by have : (putS (.var s) last st).bs = st.bs := by cases last <;> rfl
                                 rw [this]; exact h
  | .lambda nm xs a, last, st, hw, h => by have : (putS (.lambda nm xs a) last st).bs = st.bs ++ [a] := by cases last <;> rfl
                                           rw [this]; exact wfs_append _ _ h ⟨hw.2, trivial⟩
  | .define s a, last, st, hw, h => by
    have : (putS (.define s a) last st).bs = (putS a false (emitS st 4 0)).bs := by cases last <;> rfl
    rw [this]; exact wfb_put a false (emitS st 4 0) hw h
  | .set s a, last, st, hw, h => by
    have : (putS (.set s a) last st).bs = (putS a false (emitS st 4 0)).bs := by cases last <;> rfl
    rw [this]; exact wfb_put a false (emitS st 4 0) hw h
  | .ite a b c, last, st, hw, h => wfb_put c true _ hw.2.2 (wfb_put b true (emitS (pointS (putS a false (emitS st 4 0)) st.is.length) 8 0) hw.2.1 (wfb_put a false (emitS st 4 0) hw.1 h))
  | .seq es, last, st, hw, h => wfb_seq es 4 last st hw.2 h
  | .apply es, last, st, hw, h => wfb_app es 4 st hw.2 h
theorem wfb_seq : ∀ (es : List E) (op : Int) (last : Bool) (st : BS), WfEs es → WfEs st.bs → WfEs (seqP es op last st).bs
  | [], op, last, st, _, h => h
  | [e], op, last, st, hw, h => wfb_put e last (emitS st 7 0) hw.1 h
  | e :: e2 :: r, op, last, st, hw, h => wfb_seq (e2 :: r) 6 last (pointS (putS e false (emitS st op 0)) st.is.length) hw.2 (wfb_put e false (emitS st op 0) hw.1 h)
theorem wfb_app : ∀ (es : List E) (op : Int) (st : BS), WfEs es → WfEs st.bs → WfEs (appP es op st).bs
  | [], op, st, _, h => h
  | e :: r, op, st, hw, h => wfb_app r 5 (pointS (putS e false (emitS st op 0)) st.is.length) hw.2 (wfb_put e false (emitS st op 0) hw.1 h)
end
theorem wfb_forms : ∀ (es : List E) (st : BS), WfEs es → WfEs st.bs → WfEs (formsS es st).bs
  | [], st, _, h => h
  | e :: r, st, hw, h => wfb_forms r (formS e st) hw.2 (wfb_put e true (emitS st 0 0) hw.1 h)
theorem wfs_get : ∀ (es : List E) (i : Nat) (e : E), WfEs es → es[i]? = some e → WfE e
  | [], i, e, _, h => by simp at h
  | a :: r, 0, e, hw, h => by simp at h; subst h; exact hw.1
  | a :: r, i + 1, e, hw, h => wfs_get r i e hw.2 (by simpa using h)
theorem wt_drop : ∀ (es : List E) (i : Nat) (e : E), es[i]? = some e → wtEs (es.drop i) = wtE e + wtEs (es.drop (i + 1))
  | [], i, e, h => by simp at h
  | a :: r, 0, e, h => by simp at h; subst h; simp [wtEs]
  | a :: r, i + 1, e, h => by simpa using wt_drop r i e (by simpa using h)
theorem wt_split (es : List E) (i : Nat) : wtEs es = wtEs (es.take i) + wtEs (es.drop i) := by rw [← wtEs_append, List.take_append_drop]
theorem bs_pre : ∀ (n i : Nat) (st : BS), PreB st (bodiesS n i st)
  | 0, i, st => PreB.refl st
  | n + 1, i, st => by
    unfold bodiesS
    cases h : st.bs[i]? with
    | none => exact PreB.refl st
    | some e => exact ((PreB.entry st i).trans (pre_put e true _)).trans (bs_pre n (i + 1) _)
theorem inv_bodies : ∀ (n i : Nat) (st : BS), InvB st → InvB (bodiesS n i st)
  | 0, i, st, h => h
  | n + 1, i, st, hv => by
    unfold bodiesS
    cases h : st.bs[i]? with
    | none => exact hv
    | some e => exact inv_bodies n (i + 1) _ (inv_put e true _ (hv.entry i))
theorem bodies_ls : ∀ (n i : Nat) (st : BS) (j : Nat), j < i → j < st.ls.length → (bodiesS n i st).ls[j]? = st.ls[j]?
  | 0, i, st, j, _, _ => rfl
  | n + 1, i, st, j, hj, hl => by
    unfold bodiesS
    cases h : st.bs[i]? with
    | none => rfl
    | some e =>
      obtain ⟨x, hx⟩ := ls_put e true (entryS st i)
      have e1 : (putS e true (entryS st i)).ls[j]? = st.ls[j]? := by
        rw [hx, List.getElem?_append_left (by simp [entryS]; omega)]
        simp only [entryS]
        rw [List.getElem?_set_ne (by omega)]
      rw [← e1]
      exact bodies_ls n (i + 1) _ j (by omega) (by rw [hx]; simp [entryS]; omega)
theorem bodies_at : ∀ (n i : Nat) (st z : BS), InvB st → WfEs st.bs → wtEs (st.bs.drop i) ≤ n → z = bodiesS (n + 1) i st → ∀ (l : Nat) (nm : List UInt8) (ns : List Nat) (e : Nat) (a : E), i ≤ l → z.ls[l]? = some (nm, ns, e) → z.bs[l]? = some a → At z a e none
  | n, i, st, z, hv, hw, hn, hz, l, nm, ns, e, a, hl, h1, h2 => by
    unfold bodiesS at hz
    cases hb : st.bs[i]? with
    | none =>
      rw [hb] at hz
      simp only at hz
      have : st.bs.length ≤ i := by
        rcases Nat.lt_or_ge i st.bs.length with h' | h'
        · rw [List.getElem?_eq_getElem h'] at hb; cases hb
        · exact h'
      rw [hz, List.getElem?_eq_none (by omega)] at h2; cases h2
    | some b =>
      rw [hb] at hz
      simp only at hz
      have hwb := wfs_get _ _ _ hw hb
      have hil : i < st.bs.length := by
        rcases Nat.lt_or_ge i st.bs.length with h' | h'
        · exact h'
        · rw [List.getElem?_eq_none h'] at hb; cases hb
      have hd := wt_drop _ _ _ hb
      have hp := wtE_pos b
      have hv2 := inv_put b true _ (hv.entry i)
      have hpz : PreB (putS b true (entryS st i)) z := by rw [hz]; exact bs_pre _ _ _
      rcases Nat.lt_or_ge i l with hlt | hge
      · -- a later one
        cases n with
        | zero => omega
        | succ n =>
          have hs := bsw_put b true (entryS st i)
          have e1 : (entryS st i).bs = st.bs := rfl
          rw [e1] at hs
          have s1 := wt_split (putS b true (entryS st i)).bs (i + 1)
          have s2 := wt_split st.bs (i + 1)
          have pb := (pre_put b true (entryS st i)).tb.bs
          have tk : (putS b true (entryS st i)).bs.take (i + 1) = st.bs.take (i + 1) := by
            apply List.ext_getElem?
            intro j
            rw [List.getElem?_take, List.getElem?_take]
            split
            · rename_i hj
              have hj2 : j < st.bs.length := by omega
              rw [List.getElem?_eq_getElem hj2]
              exact pb j _ (by rw [e1]; exact List.getElem?_eq_getElem hj2)
            · rfl
          rw [tk] at s1
          exact bodies_at n (i + 1) _ z hv2 (wfb_put b true (entryS st i) hwb hw) (by omega) hz l nm ns e a hlt h1 h2
      · have hli : l = i := by omega
        subst hli
        have hb2 : z.bs[l]? = some b := hpz.tb.bs _ _ ((pre_put b true (entryS st l)).tb.bs _ _ hb)
        rw [h2] at hb2
        cases hb2
        have hls : l < st.ls.length := by rw [hv.lb]; exact hil
        obtain ⟨x, hx⟩ := ls_put a true (entryS st l)
        have e3 : z.ls[l]? = some (((st.ls.getD l ([], [], 0)).1, (st.ls.getD l ([], [], 0)).2.1, st.is.length)) := by
          rw [hz, bodies_ls _ _ _ l (by omega) (by rw [hx]; simp [entryS]; omega), hx, List.getElem?_append_left (by simp [entryS]; omega)]
          simp only [entryS]
          rw [List.getElem?_set_self hls]
        rw [h1] at e3
        cases e3
        exact put_at a true (entryS st l) z (hv.entry l) hwb ⟨fun i h0 hi => hpz.is i hi, hpz.tb⟩
/-- The code of a program: its forms, its bodies. -/
theorem code_at (es : List E) (hw : WfEs es) (hl : wtEs es ≤ 1000000) : InvB (codeS es) ∧ FormsA (codeS es) es 0 ∧ BodA (codeS es) := by
  have v0 : InvB BS.new := ⟨rfl, by simp [BS.new]⟩
  have v1 := inv_forms es BS.new v0
  have hb := bsw_forms es BS.new
  have e0 : wtEs BS.new.bs = 0 := rfl
  have hp : PreB (emitS (formsS es BS.new) 14 0) (codeS es) := bs_pre _ _ _
  refine ⟨inv_bodies _ _ _ (v1.emit 14 0), ?_, ?_⟩
  · refine forms_at es BS.new (codeS es) v0 hw ⟨fun i _ hi => (((PreB.emit _ 14 0).trans hp).is i hi), ((PreB.emit _ 14 0).trans hp).tb⟩ ?_
    rw [hp.is _ (by simp [emitS])]
    simp [emitS]
  · intro l nm ns e a h1 h2
    have hb2 : wtEs (emitS (formsS es BS.new) 14 0).bs ≤ 1000000 := by
      show wtEs (formsS es BS.new).bs ≤ _
      omega
    exact bodies_at 1048575 0 (emitS (formsS es BS.new) 14 0) (codeS es) (v1.emit 14 0) (wfb_forms es BS.new hw trivial) (by rw [List.drop_zero]; omega) rfl l nm ns e a (Nat.zero_le _) h1 h2
end Go.Proofs.YtlobegpjenabaaaGreatDoor
