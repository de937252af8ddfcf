/- Of any text that compiles: its code is not too much. -/
import Derived.Test.YtlobegpjenabaaaGreatDoorL35
import Derived.Test.YtlobegpjenabaaaGreatDoorL31
namespace Go.Proofs.YtlobegpjenabaaaGreatDoor
open Go.RowKit
set_option linter.unusedSimpArgs false
set_option linter.unusedVariables false

mutual
/-- Ints and symbols as a machine wants them. -/
def okDt : D → Prop
  | .agg l => okLt l
  | .lit (.int .i64 k) => -9223372036854775808 ≤ k ∧ k ≤ 9223372036854775807
  | .lit (.bool _) => True
  | .lit (.string t) => t.length ≤ 8000
  | _ => False
def okLt : List D → Prop
  | [] => True
  | d :: r => okDt d ∧ okLt r
end
theorem okLt_append : ∀ (a b : List D), okLt a → okLt b → okLt (a ++ b)
  | [], b, _, h => h
  | d :: r, b, h, k => ⟨h.1, okLt_append r b h.2 k⟩
theorem okLt_mem : ∀ (l : List D) (d : D), okLt l → d ∈ l → okDt d ∧ wtD d ≤ wtL l
  | [], d, _, h => by cases h
  | a :: r, d, h, hm => by
    simp only [wtL]
    cases hm with
    | head => exact ⟨h.1, by omega⟩
    | tail _ hm => have := okLt_mem r d h.2 hm; exact ⟨this.1, by omega⟩
theorem dOk_of : ∀ (n : Nat) (d : D), okDt d → wtD d < n → dOk n d = true
  | 0, d, _, h => by omega
  | n + 1, .agg l, h, hw => by
    simp only [dOk, List.all_eq_true]
    intro d hd
    have := okLt_mem l d h hd
    simp only [wtD] at hw
    exact dOk_of n d this.1 (by omega)
  | n + 1, .lit (.int .i64 k), h, _ => by simp only [dOk, Bool.and_eq_true, decide_eq_true_eq]; exact h
  | n + 1, .lit (.bool _), h, _ => rfl
  | n + 1, .lit (.string t), h, _ => by simp only [dOk, decide_eq_true_eq]; exact h
  | n + 1, .lit (.int .i8 k), h, _ => h.elim
  | n + 1, .lit (.int .i16 k), h, _ => h.elim
  | n + 1, .lit (.int .i32 k), h, _ => h.elim
  | n + 1, .lit (.int .u8 k), h, _ => h.elim
  | n + 1, .lit (.int .u16 k), h, _ => h.elim
  | n + 1, .lit (.int .u32 k), h, _ => h.elim
  | n + 1, .lit (.int .u64 k), h, _ => h.elim
  | n + 1, .lit (.float a b), h, _ => h.elim
  | n + 1, .lit .nil, h, _ => h.elim
  | n + 1, .nil, h, _ => h.elim
  | n + 1, .ptr _, h, _ => h.elim
  | n + 1, .slice _ _, h, _ => h.elim
  | n + 1, .iface _ _, h, _ => h.elim
  | n + 1, .map _, h, _ => h.elim
  | n + 1, .held _, h, _ => h.elim

theorem tokD_ok (t : List UInt8) (d : D) (ht : t.length ≤ 8000) (h : tokD t = some d) : okDt d := by
  rcases tokK_cases t with ⟨_, h2⟩ | ⟨_, b, _, h3⟩ | ⟨_, h2, h3, h4⟩ | ⟨_, h2⟩
  · rw [h2] at h; cases h
  · rw [h3] at h; cases h; exact trivial
  · rw [h4] at h; cases h
    have hne : ((body t).all fun c => sortU c == 1) = true := by
      unfold digits at h2; rw [Bool.and_eq_true] at h2; exact h2.2
    obtain ⟨u, e1, e2, e3⟩ := valF_parse (body t) 0 0 hne (by simp) (by omega)
    have hu : u < 10 ^ 18 := Nat.lt_of_lt_of_le e3 (Nat.pow_le_pow_right (by omega) (by omega))
    have hval : val (body t) = u := e2
    rw [hval]
    show -9223372036854775808 ≤ _ ∧ _ ≤ 9223372036854775807
    split <;> omega
  · rw [h2] at h; cases h; exact ht
theorem rd_ok (l : List UInt8) (hl : l.length ≤ 8000) : ∀ (n op i : Nat) (m : Option (List D)) (d : D) (k : Nat), (match m with | none => True | some acc => okLt acc) → rd n l op i m = .inr (d, k) → okDt d
  | 0, op, i, m, d, k, _, h => by simp [rd] at h
  | n + 1, op, i, none, d, k, hm, h => by
    simp only [rd] at h
    split at h
    · cases h
    split at h
    · split at h
      · cases h
      · exact rd_ok l hl n (op + 1) (i + 1) (some []) d k trivial h
    split at h
    · split at h
      · cases h
      · split at h
        · cases h
        · split at h
          · cases h
          · rename_i d' k' hr
            cases h
            have := rd_ok l hl n (op + 1) (skipTo l (i + 1)) none d' k trivial hr
            exact ⟨show qsym.length ≤ 8000 by decide, this, trivial⟩
    split at h
    · cases h
    · split at h
      · cases h
      · rename_i d' hd
        cases h
        exact tokD_ok _ _ (by simp only [List.length_take, List.length_drop]; omega) hd
  | n + 1, op, i, some acc, d, k, hm, h => by
    simp only [rd] at h
    split at h
    · cases h
    split at h
    · cases h; exact hm
    split at h
    · cases h
    · rename_i d' k' hr
      have a2 := rd_ok l hl n op (skipTo l i) none d' k' trivial hr
      exact rd_ok l hl n op k' (some (acc ++ [d'])) d k (okLt_append _ _ hm ⟨a2, trivial⟩) h
theorem readS_okt (l : List UInt8) (hl : l.length ≤ 8000) : ∀ (n i : Nat) (acc ds : List D), okLt acc → readS n l i acc = .inr ds → okLt ds
  | 0, i, acc, ds, ha, h => by simp only [readS] at h; cases h; exact ha
  | n + 1, i, acc, ds, ha, h => by
    simp only [readS] at h
    split at h
    · cases h; exact ha
    split at h
    · cases h
    · rename_i d k hr
      have a2 := rd_ok l hl _ 0 (skipTo l i) none d k trivial hr
      exact readS_okt l hl n k (acc ++ [d]) ds (okLt_append _ _ ha ⟨a2, trivial⟩) h

mutual
/-- An expression whose constants are so, and no more than M. -/
def ceE (M : Nat) : E → Prop
  | .const d => okDt d ∧ wtD d ≤ M
  | .nothing => True
  | .var _ => True
  | .ite a b c => ceE M a ∧ ceE M b ∧ ceE M c
  | .define _ a => ceE M a
  | .set _ a => ceE M a
  | .lambda _ xs a => xs.length ≤ M ∧ ceE M a
  | .seq es => ceEs M es
  | .apply es => ceEs M es
def ceEs (M : Nat) : List E → Prop
  | [] => True
  | e :: r => ceE M e ∧ ceEs M r
end
theorem ces_append {M : Nat} : ∀ (a b : List E), ceEs M a → ceEs M b → ceEs M (a ++ b)
  | [], b, _, h => h
  | e :: r, b, h, k => ⟨h.1, ces_append r b h.2 k⟩
theorem ces_get {M : Nat} : ∀ (l : List E) (i : Nat) (e : E), ceEs M l → l[i]? = some e → ceE M e
  | [], i, e, _, h => by simp at h
  | a :: r, 0, e, h, hi => by simp at hi; exact hi ▸ h.1
  | a :: r, i + 1, e, h, hi => by simp at hi; exact ces_get r i e h.2 hi
/-- A datum that is so, and no more than M. -/
def GD (M : Nat) (d : D) : Prop := okDt d ∧ wtD d ≤ M
def GL (M : Nat) (l : List D) : Prop := okLt l ∧ wtL l ≤ M
theorem GL.tail {M : Nat} {l : List D} (h : GL M l) : GL M l.tail := by
  match l, h with
  | [], h => exact h
  | a :: r, h => exact ⟨h.1.2, by have := h.2; simp only [wtL] at this; show wtL r ≤ M; omega⟩
theorem GL.cons {M : Nat} {d : D} {l : List D} (h : GL M (d :: l)) : GD M d ∧ GL M l := by
  have := h.2; simp only [wtL] at this
  exact ⟨⟨h.1.1, by omega⟩, h.1.2, by omega⟩
theorem GD.items {M : Nat} {d : D} (h : GD M d) (hi : isList d = true) : GL M (itemsD d) := by
  have h1 := itemsD_wt hi
  refine ⟨?_, by have := h.2; omega⟩
  match d, hi, h with
  | .agg l, _, h => exact h.1
theorem ce_each {M : Nat} {f : D → Option E} (hf : ∀ d e, GD M d → f d = some e → ceE M e) : ∀ (ds : List D) (ks : List E), GL M ds → eachS f ds = some ks → ceEs M ks
  | [], ks, _, h => by cases h; exact trivial
  | d :: r, ks, hg, h => by
    simp only [eachS] at h
    split at h
    · rename_i e he
      split at h
      · rename_i es hes
        cases h
        exact ⟨hf d e hg.cons.1 he, ce_each hf r es hg.cons.2 hes⟩
      · cases h
    · cases h
theorem ce_seqS {M : Nat} : ∀ (ks : List E) (e : E), seqS ks = some e → ceEs M ks → ceE M e
  | [], e, h, _ => by cases h
  | [k], e, h, hw => by cases h; exact hw.1
  | a :: b :: r, e, h, hw => by cases h; exact hw
theorem ce_body {M : Nat} {f : D → Option E} (hf : ∀ d e, GD M d → f d = some e → ceE M e) (ds : List D) (e : E) (hg : GL M ds) (h : bodyS f ds = some e) : ceE M e := by
  unfold bodyS at h
  cases hk : eachS f ds with
  | none => rw [hk] at h; cases h
  | some ks =>
    rw [hk] at h
    exact ce_seqS ks e h (ce_each hf ds ks hg hk)
theorem wtL_ge : ∀ (ds : List D), ds.length ≤ wtL ds
  | [] => Nat.le_refl _
  | d :: r => by have := wtL_ge r; have := wtD_pos d; simp only [wtL, List.length_cons]; omega
theorem ce_proc {M : Nat} {f : D → Option E} (hf : ∀ d e, GD M d → f d = some e → ceE M e) (nd ds : List D) (e : E) (hn : nd.length ≤ M) (hg : GL M ds) (h : procS f nd ds = some e) : ceE M e := by
  unfold procS at h
  split at h
  · cases hb : bodyS f ds with
    | none => rw [hb] at h; cases h
    | some k =>
      rw [hb] at h
      cases h
      exact ⟨by simpa using hn, ce_body hf ds k hg hb⟩
  · cases h
theorem ce_asS {M : Nat} (s : List UInt8) (e : E) (h : ceE M e) : ceE M (asS s e) := by cases e <;> exact h
theorem ce_nv {M : Nat} {f : D → Option E} {mk : List UInt8 → E → E} (hmk : ∀ s e, ceE M e → ceE M (mk s e)) (hf : ∀ d e, GD M d → f d = some e → ceE M e) : ∀ (ds : List D) (e : E), GL M ds → nvS f mk ds = some e → ceE M e
  | [x, a], e, hg, h => by
    simp only [nvS] at h
    split at h
    · cases hk : f a with
      | none => rw [hk] at h; cases h
      | some k =>
        rw [hk] at h
        cases h
        exact hmk _ _ (hf a k hg.cons.2.cons.1 hk)
    · cases h
  | [], e, _, h => by cases h
  | [_], e, _, h => by cases h
  | _ :: _ :: _ :: _, e, _, h => by cases h
theorem GL.snd {M : Nat} : ∀ {l : List D}, l.all bOk = true → GL M l → GL M (l.map bSnd)
  | [], _, h => h
  | b :: r, hb, h => by
    rw [List.all_cons, Bool.and_eq_true] at hb
    have h1 := two_wt hb.1
    obtain ⟨g1, g2⟩ := h.cons
    have h3 := h.2; simp only [wtL] at h3
    have h4 := split_wt r hb.2
    have h2 := GL.snd hb.2 g2
    refine ⟨⟨?_, h2.1⟩, by simp only [List.map_cons, wtL]; omega⟩
    have hbk := hb.1
    unfold bOk at hbk
    rw [Bool.and_eq_true] at hbk
    have hi := GD.items g1 hbk.1
    obtain ⟨x, y, hxy⟩ := two_of (of_decide_eq_true hbk.2)
    rw [hxy] at hi
    unfold bSnd
    rw [hxy]
    exact hi.cons.2.cons.1.1
theorem ce_exprS {M : Nat} : ∀ (n : Nat) (d : D) (e : E), GD M d → exprS n d = some e → ceE M e
  | 0, d, e, _, h => by cases h
  | n + 1, .agg l, e, hg, h => by
    have ih := ce_exprS (M := M) n
    have hl : GL M l := ⟨hg.1, by have := hg.2; simp only [wtD] at this; omega⟩
    have ht := hl.tail
    simp only [exprS] at h
    split at h
    · match hq : l.tail, h with
      | [q], h => cases h; rw [hq] at ht; exact ht.cons.1
      | [], h => cases h
      | _ :: _ :: _, h => cases h
    split at h
    · cases hk : eachS (exprS n) l.tail with
      | none => rw [hk] at h; cases h
      | some ks =>
        rw [hk] at h
        have h1 := ce_each ih l.tail ks ht hk
        match ks, h with
        | [a, b], h => cases h; exact ⟨h1.1, h1.2.1, trivial⟩
        | [a, b, c], h => cases h; exact ⟨h1.1, h1.2.1, h1.2.2.1⟩
        | [], h => cases h
        | [_], h => cases h
        | _ :: _ :: _ :: _ :: _, h => cases h
    split at h
    · exact ce_nv (mk := .set) (fun _ _ h => h) ih l.tail e ht h
    split at h
    · match hq : l.tail, h with
      | q :: ds, h =>
        rw [hq] at ht
        simp only [lamS] at h
        split at h
        · rename_i hi
          have h2 := GD.items ht.cons.1 hi
          exact ce_proc ih _ _ e (Nat.le_trans (wtL_ge _) h2.2) ht.cons.2 h
        · cases h
      | [], h => cases h
    split at h
    · exact ce_body ih l.tail e ht h
    split at h
    · match hq : l.tail, h with
      | q :: ds, h =>
        rw [hq] at ht
        simp only [defS] at h
        split at h
        · rename_i hi
          have h2 := GD.items ht.cons.1 hi
          match hd : itemsD q, h with
          | x :: xs, h =>
            rw [hd] at h2
            simp only [dfpS] at h
            split at h
            · cases hp : procS (exprS n) xs ds with
              | none => rw [hp] at h; cases h
              | some k =>
                rw [hp] at h
                cases h
                exact ce_asS _ _ (ce_proc ih _ _ k (Nat.le_trans (wtL_ge _) h2.cons.2.2) ht.cons.2 hp)
            · cases h
          | [], h => cases h
        · exact ce_nv ce_asS ih (q :: ds) e ht h
      | [], h => cases h
    split at h
    · match hq : l.tail, h with
      | q :: ds, h =>
        rw [hq] at ht
        simp only [letS] at h
        split at h
        · rename_i hi
          rw [Bool.and_eq_true] at hi
          have h2 := GD.items ht.cons.1 hi.1
          split at h
          · rename_i p es hp he
            cases h
            exact ⟨ce_proc ih _ _ p (by rw [List.length_map]; exact Nat.le_trans (wtL_ge _) h2.2) ht.cons.2 hp, ce_each ih _ es (h2.snd hi.2) he⟩
          · cases h
        · cases h
      | [], h => cases h
    split at h
    · cases h
    · cases hk : eachS (exprS n) l with
      | none => rw [hk] at h; cases h
      | some ks =>
        rw [hk] at h
        cases h
        exact ce_each ih l ks hl hk
  | n + 1, .lit (.string s), e, hg, h => by
    simp only [exprS] at h
    split at h
    · cases h
    · cases h; exact trivial
  | n + 1, .lit (.int k m), e, hg, h => by cases h; exact hg
  | n + 1, .lit (.bool b), e, hg, h => by cases h; exact hg
  | n + 1, .lit (.float a b), e, hg, h => by cases h; exact hg
  | n + 1, .lit .nil, e, hg, h => by cases h; exact hg
  | n + 1, .nil, e, hg, h => by cases h; exact hg
  | n + 1, .ptr _, e, hg, h => by cases h; exact hg
  | n + 1, .slice _ _, e, hg, h => by cases h; exact hg
  | n + 1, .iface _ _, e, hg, h => by cases h; exact hg
  | n + 1, .map _, e, hg, h => by cases h; exact hg
  | n + 1, .held _, e, hg, h => by cases h; exact hg

/-- A builder whose constants, lambdas and bodies are so. -/
def GB (M : Nat) (st : BS) : Prop := csOk (M + 1) st.cs = true ∧ st.ls.all (fun l => decide (l.2.1.length ≤ M)) = true ∧ ceEs M st.bs
theorem csOk_snoc (N : Nat) (c : Option D) : ∀ (cs : List (Option D)), csOk N cs = true → (∀ d, c = some d → dOk N d = true) → csOk N (cs ++ [c]) = true
  | [], _, hc => by
    cases c with
    | none => rfl
    | some d => simp [csOk, hc d rfl]
  | none :: r, h, hc => by simp only [List.cons_append, csOk] at h ⊢; exact csOk_snoc N c r h hc
  | some d :: r, h, hc => by
    simp only [List.cons_append, csOk, Bool.and_eq_true] at h ⊢
    exact ⟨h.1, csOk_snoc N c r h.2 hc⟩
theorem GB.emit {M : Nat} {st : BS} (h : GB M st) (op n : Int) : GB M (emitS st op n) := h
theorem GB.point {M : Nat} {st : BS} (h : GB M st) (i : Nat) : GB M (pointS st i) := h
theorem GB.name {M : Nat} {st : BS} (h : GB M st) (s : List UInt8) : GB M (nameS st s) := h
theorem GB.ends {M : Nat} {st : BS} (h : GB M st) (last : Bool) : GB M (endS st last) := by unfold endS; split <;> exact h
theorem GB.const {M : Nat} {st : BS} (h : GB M st) (c : Option D) (hc : ∀ d, c = some d → GD M d) : GB M (constS st c) :=
  ⟨csOk_snoc _ c st.cs h.1 (fun d hd => dOk_of _ d (hc d hd).1 (by have := (hc d hd).2; omega)), h.2⟩
theorem numsS_len : ∀ (xs : List (List UInt8)) (st : BS), (numsS st xs).length = xs.length
  | [], st => rfl
  | s :: r, st => by simp only [numsS, List.length_cons, numsS_len r]
theorem GB.lam {M : Nat} {st : BS} (h : GB M st) (nm : List UInt8) (xs : List (List UInt8)) (a : E) (hx : xs.length ≤ M) (ha : ceE M a) : GB M (lamBS st nm xs a) := by
  obtain ⟨h1, h2, h3, h4, h5⟩ := namesS_same xs st
  refine ⟨by simp only [lamBS, h2]; exact h.1, ?_, ?_⟩
  · simp only [lamBS, List.all_append, List.all_cons, List.all_nil, Bool.and_true, Bool.and_eq_true, decide_eq_true_eq, numsS_len]
    exact ⟨h.2.1, hx⟩
  · exact ces_append _ _ h.2.2 ⟨ha, trivial⟩
theorem GB.entry {M : Nat} {st : BS} (h : GB M st) (i : Nat) : GB M (entryS st i) := by
  refine ⟨h.1, ?_, h.2.2⟩
  have h2 := h.2.1
  simp only [List.all_eq_true, decide_eq_true_eq] at h2 ⊢
  intro l hl
  by_cases hi : i < st.ls.length
  · rcases List.mem_or_eq_of_mem_set hl with hl | rfl
    · exact h2 l hl
    · show ((st.ls.getD i ([], [], 0)).2.1).length ≤ M
      rw [List.getD_eq_getElem?_getD, List.getElem?_eq_getElem hi]
      exact h2 _ (List.getElem_mem hi)
  · have : (entryS st i).ls = st.ls := by simp only [entryS]; exact List.set_eq_of_length_le (by omega)
    rw [this] at hl
    exact h2 l hl
mutual
theorem gb_put {M : Nat} : ∀ (e : E) (last : Bool) (st : BS), ceE M e → GB M st → GB M (putS e last st)
  | .const d, last, st, he, h => ((h.const (some d) (fun d' hd => by cases hd; exact he)).emit _ _).ends last
  | .nothing, last, st, he, h => ((h.const none (fun d' hd => by cases hd)).emit _ _).ends last
  | .var s, last, st, he, h => ((h.name s).emit _ _).ends last
  | .lambda nm xs a, last, st, he, h => ((h.lam nm xs a he.1 he.2).emit _ _).ends last
  | .define s a, last, st, he, h => ((((gb_put a false _ he (h.emit 4 0)).point _).name s).emit _ _).ends last
  | .set s a, last, st, he, h => ((((gb_put a false _ he (h.emit 4 0)).point _).name s).emit _ _).ends last
  | .ite a b c, last, st, he, h => gb_put c true _ he.2.2 ((gb_put b true _ he.2.1 (((gb_put a false _ he.1 (h.emit 4 0)).point _).emit 8 0)).point _)
  | .seq es, last, st, he, h => gb_seq es 4 last st he h
  | .apply es, last, st, he, h => ((gb_app es 4 st he h).emit 11 0).emit 12 0
theorem gb_seq {M : Nat} : ∀ (es : List E) (op : Int) (last : Bool) (st : BS), ceEs M es → GB M st → GB M (seqP es op last st)
  | [], op, last, st, he, h => h
  | [e], op, last, st, he, h => gb_put e last _ he.1 (h.emit 7 0)
  | e :: e2 :: r, op, last, st, he, h => gb_seq (e2 :: r) 6 last _ he.2 ((gb_put e false _ he.1 (h.emit op 0)).point _)
theorem gb_app {M : Nat} : ∀ (es : List E) (op : Int) (st : BS), ceEs M es → GB M st → GB M (appP es op st)
  | [], op, st, he, h => h
  | e :: r, op, st, he, h => gb_app r 5 _ he.2 ((gb_put e false _ he.1 (h.emit op 0)).point _)
end
theorem gb_forms {M : Nat} : ∀ (es : List E) (st : BS), ceEs M es → GB M st → GB M (formsS es st)
  | [], st, he, h => h
  | e :: r, st, he, h => gb_forms r _ he.2 ((gb_put e true _ he.1 (h.emit 0 0)).point _)
theorem gb_bodies {M : Nat} : ∀ (n i : Nat) (st : BS), GB M st → GB M (bodiesS n i st)
  | 0, i, st, h => h
  | n + 1, i, st, h => by
    rw [bodiesS]
    split
    · rename_i e he
      exact gb_bodies n (i + 1) _ (gb_put e true _ (ces_get _ _ _ h.2.2 he) (h.entry i))
    · exact h
theorem size_bodies : ∀ (n i : Nat) (st : BS), st.size + 8 * wtEs (st.bs.drop i) ≤ 100000 → st.pot ≤ 100000 + i * 100000 → (bodiesS n i st).size ≤ 100000
  | 0, i, st, h, _ => by simp only [bodiesS]; omega
  | n + 1, i, st, h, hp => by
    rw [bodiesS]
    split
    · rename_i e he
      obtain ⟨hi, rfl⟩ := List.getElem?_eq_some_iff.1 he
      obtain ⟨h1, h2, h3, h4⟩ := bod_step hi h hp
      exact size_bodies n (i + 1) _ h2 h3
    · omega
theorem code_size (ks : List E) (h : 8 * wtEs ks + 1 ≤ 100000) : (codeS ks).size ≤ 100000 := by
  have h1 := pot_forms ks BS.new
  have h0 : BS.new.pot = 0 := rfl
  have h2 : (emitS (formsS ks BS.new) 14 0).pot ≤ 100000 := by rw [pot_emit]; omega
  exact size_bodies _ 0 _ (by rw [List.drop_zero]; exact h2) (by omega)
/-- The code of any text. -/
theorem comp_any (l : List UInt8) (ks : List E) (h : compE l = some ks) : cdOk 8001 (codeS ks) = true ∧ WfEs ks ∧ wtEs ks ≤ 8000 ∧ (codeS ks).size ≤ 100000 := by
  unfold compE at h
  split at h
  · cases h
  rename_i hl
  split at h
  · cases h
  rename_i f hr
  have hw := readS_wt l _ 0 [] f (Nat.zero_le _) hr
  have hw' : wtL f ≤ 8000 := by simp only [wtL] at hw; omega
  have hk := readS_okt l (by omega) _ 0 [] f trivial hr
  have hce : ceEs 8000 ks := ce_each (M := 8000) (fun d e => ce_exprS 21 d e) f ks ⟨hk, hw'⟩ h
  have hwk : wtEs ks ≤ 8000 := Nat.le_trans (each_wt (fun d e => wt_exprS 21 d e) f ks h) hw'
  have hsz := code_size ks (by omega)
  have hgb : GB 8000 (codeS ks) := gb_bodies _ _ _ ((gb_forms ks BS.new hce ⟨rfl, rfl, trivial⟩).emit 14 0)
  refine ⟨?_, (wf_each (fun d e => wf_exprS 21 d e) f ks h).1, hwk, hsz⟩
  have hs : (codeS ks).is.length + (codeS ks).cs.length + (codeS ks).ns.length + (codeS ks).ls.length ≤ 100000 := hsz
  simp only [cdOk, Bool.and_eq_true, decide_eq_true_eq]
  refine ⟨⟨⟨⟨⟨by omega, by omega⟩, by omega⟩, by omega⟩, ?_⟩, hgb.1⟩
  have h2 := hgb.2.1
  simp only [List.all_eq_true, decide_eq_true_eq] at h2 ⊢
  intro x hx
  have := h2 x hx
  omega
end Go.Proofs.YtlobegpjenabaaaGreatDoor

/- Frames that nothing reaches any more are of no account. -/
namespace Go.Proofs.YtlobegpjenabaaaGreatDoor
set_option linter.unusedSimpArgs false
set_option linter.unusedVariables false

/-- A frame's number where g frames lie behind the first one. -/
def up (g : Nat) : Nat → Nat
  | 0 => 0
  | i + 1 => i + 1 + g
def En.up (g : Nat) (e : En) : En := ⟨Go.Proofs.YtlobegpjenabaaaGreatDoor.up g e.fr, e.nx, e.got⟩
def Fr.up (g : Nat) (f : Fr) : Fr := ⟨f.ns, f.vs, f.out.map (Go.Proofs.YtlobegpjenabaaaGreatDoor.up g)⟩
def PK.up (g : Nat) : PK → PK
  | .first k => .first k
  | .clo l f => .clo l (Go.Proofs.YtlobegpjenabaaaGreatDoor.up g f)
  | .kont st => .kont (st.map (En.up g))
/-- Frames with those of G behind the first one. -/
def shF (G : List Fr) : List Fr → List Fr
  | [] => []
  | f :: r => f.up G.length :: (G ++ r.map (Fr.up G.length))
def sh (G : List Fr) (s : MS) : MS := { s with fr := up G.length s.fr, st := s.st.map (En.up G.length), frs := shF G s.frs, obs := s.obs.map (Option.map (PK.up G.length)) }
end Go.Proofs.YtlobegpjenabaaaGreatDoor

/- Runs in pieces. -/
namespace Go.Proofs.YtlobegpjenabaaaGreatDoor
open Go.RowKit
set_option linter.unusedSimpArgs false
set_option linter.unusedVariables false

/-- From s so many applications more, and the program is done, saying t; never more than two are pending. -/
def Ends (C : Cd) (t : List UInt8) : Nat → MS → Prop
  | 0, _ => False
  | 1, s => s.frs ≠ [] ∧ s.st.length ≤ 3 ∧ 0 < s.st.length ∧ ∃ F, goS C F s 1 0 = some (1, .done t [])
  | N + 2, s => s.frs ≠ [] ∧ s.st.length ≤ 3 ∧ 0 < s.st.length ∧ ∃ F s', goS C F s 1 0 = some (1, .run s') ∧ Ends C t (N + 1) s'
theorem goS_shift {C : Cd} : ∀ (k : Nat) (s : MS) (n made m d : Nat) (r : RR), goS C k s n made = some (m, r) → goS C k s (n + d) (made + d) = some (m + d, r)
  | 0, s, n, made, m, d, r, h => by cases h
  | k + 1, s, n, made, m, d, r, h => by
    unfold goS at h ⊢
    cases hx : fetchS C s with
    | none => rw [hx] at h; cases h
    | some q =>
      obtain ⟨op, x⟩ := q
      rw [hx] at h
      simp only at h ⊢
      by_cases hc : op = 12 ∧ made = n
      · rw [if_pos hc] at h
        rw [if_pos ⟨hc.1, by omega⟩]
        cases h; rfl
      · rw [if_neg hc] at h
        rw [if_neg (fun e => hc ⟨e.1, by omega⟩)]
        have e1 : (if op = 12 then made + d + 1 else made + d) = (if op = 12 then made + 1 else made) + d := by split <;> omega
        rw [e1]
        cases ht : stepS C s with
        | bad => rw [ht] at h; cases h
        | ok s' => rw [ht] at h; exact goS_shift k s' n _ m d r h
        | err e d' o => rw [ht] at h; simp only at h ⊢; cases h; rfl
        | done t o => rw [ht] at h; simp only at h ⊢; cases h; rfl
/-- More rounds than it takes are of no use. -/
theorem goS_more {C : Cd} : ∀ (K : Nat) (s : MS) (n made : Nat) (r : Nat × RR), goS C K s n made = some r → ∀ j, goS C (j + K) s n made = some r
  | 0, s, n, made, r, h, _ => by cases h
  | k + 1, s, n, made, r, h, j => by
    rw [show j + (k + 1) = (j + k) + 1 by omega]
    unfold goS at h ⊢
    cases hx : fetchS C s with
    | none => rw [hx] at h; cases h
    | some q =>
      obtain ⟨op, x⟩ := q
      rw [hx] at h
      simp only at h ⊢
      split
      · rename_i hc
        rw [if_pos hc] at h
        exact h
      · rename_i hc
        rw [if_neg hc] at h
        cases ht : stepS C s with
        | bad => rw [ht] at h; cases h
        | ok s' => rw [ht] at h; exact goS_more k s' n _ r h j
        | err e d o => rw [ht] at h; exact h
        | done t o => rw [ht] at h; exact h
/-- A run that was held goes on. -/
theorem goS_on {C : Cd} : ∀ (k : Nat) (s : MS) (n made m : Nat) (s' : MS), goS C k s n made = some (m, .run s') → made ≤ n → m = n ∧ ∀ (N : Nat) (K : Nat) (r : Nat × RR), n ≤ N → goS C K s' N n = some r → goS C (k + K) s N made = some r
  | 0, s, n, made, m, s', h, _ => by cases h
  | k + 1, s, n, made, m, s', h, hl => by
    unfold goS at h
    cases hx : fetchS C s with
    | none => rw [hx] at h; cases h
    | some q =>
      obtain ⟨op, x⟩ := q
      rw [hx] at h
      simp only at h
      by_cases hc : op = 12 ∧ made = n
      · rw [if_pos hc] at h
        cases h
        refine ⟨hc.2, fun N K r hN hr => ?_⟩
        rw [← hc.2] at hr
        exact goS_more K s N made r hr (k + 1)
      · rw [if_neg hc] at h
        have hl' : (if op = 12 then made + 1 else made) ≤ n := by
          split
          · have : made ≠ n := fun e => hc ⟨by assumption, e⟩
            omega
          · exact hl
        cases ht : stepS C s with
        | bad => rw [ht] at h; cases h
        | err e d o => rw [ht] at h; simp only at h; cases h
        | done t o => rw [ht] at h; simp only at h; cases h
        | ok s1 =>
          rw [ht] at h
          simp only at h
          obtain ⟨h1, h2⟩ := goS_on k s1 n _ m s' h hl'
          refine ⟨h1, fun N K r hN hr => ?_⟩
          rw [show k + 1 + K = (k + K) + 1 by omega]
          unfold goS
          rw [hx]
          simp only
          rw [if_neg (fun e => by rw [if_pos e.1] at hl'; omega), ht]
          exact h2 N K r hN hr
theorem goS_done {C : Cd} : ∀ (k : Nat) (s : MS) (n made m : Nat) (t : List UInt8) (o : List (List UInt8)), goS C k s n made = some (m, .done t o) → made ≤ n → ∀ N, n ≤ N → goS C k s N made = some (m, .done t o)
  | 0, s, n, made, m, t, o, h, _, _, _ => by cases h
  | k + 1, s, n, made, m, t, o, h, hl, N, hN => by
    unfold goS at h ⊢
    cases hx : fetchS C s with
    | none => rw [hx] at h; cases h
    | some q =>
      obtain ⟨op, x⟩ := q
      rw [hx] at h
      simp only at h ⊢
      by_cases hc : op = 12 ∧ made = n
      · rw [if_pos hc] at h
        cases h
      · rw [if_neg hc] at h
        have hl' : (if op = 12 then made + 1 else made) ≤ n := by
          split
          · have : made ≠ n := fun e => hc ⟨by assumption, e⟩
            omega
          · exact hl
        rw [if_neg (fun e => by rw [if_pos e.1] at hl'; omega)]
        cases ht : stepS C s with
        | bad => rw [ht] at h; cases h
        | ok s' => rw [ht] at h; exact goS_done k s' n _ m t o h hl' N hN
        | err e d o' => rw [ht] at h; simp only at h; cases h
        | done t' o' => rw [ht] at h; exact h
theorem Ends.pos {C : Cd} {t : List UInt8} : ∀ {N : Nat} {s : MS}, Ends C t N s → 1 ≤ N ∧ s.frs ≠ [] ∧ s.st.length ≤ 3 ∧ 0 < s.st.length
  | 0, _, h => h.elim
  | 1, _, h => ⟨Nat.le_refl _, h.1, h.2.1, h.2.2.1⟩
  | N + 2, _, h => ⟨by omega, h.1, h.2.1, h.2.2.1⟩
/-- A piece of a run. -/
theorem Ends.piece {C : Cd} {t : List UInt8} : ∀ (k N : Nat) (s : MS), Ends C t N s → (k + 1 < N → ∃ F s', goS C F s (k + 1) 0 = some (k + 1, .run s') ∧ Ends C t (N - (k + 1)) s') ∧ (N ≤ k + 1 → ∃ F, goS C F s (k + 1) 0 = some (N, .done t []))
  | k, 0, s, h => h.elim
  | 0, 1, s, h => ⟨fun h1 => by omega, fun _ => h.2.2.2⟩
  | 0, N + 2, s, h => by
    obtain ⟨_, _, _, F, s', h1, h2⟩ := h
    exact ⟨fun _ => ⟨F, s', h1, h2⟩, fun h3 => by omega⟩
  | k + 1, 1, s, h => by
    obtain ⟨_, _, _, F, h1⟩ := h
    exact ⟨fun h3 => by omega, fun _ => ⟨F, goS_done F s 1 0 1 t [] h1 (by omega) (k + 1 + 1) (by omega)⟩⟩
  | k + 1, N + 2, s, h => by
    obtain ⟨_, _, _, F, s', h1, h2⟩ := h
    obtain ⟨g1, g2⟩ := Ends.piece k (N + 1) s' h2
    have ho := (goS_on F s 1 0 1 s' h1 (by omega)).2
    refine ⟨fun h3 => ?_, fun h3 => ?_⟩
    · obtain ⟨F2, s2, q1, q2⟩ := g1 (by omega)
      have := goS_shift F2 s' (k + 1) 0 (k + 1) 1 _ q1
      exact ⟨F + F2, s2, ho (k + 1 + 1) F2 _ (by omega) (by simpa using this), by rw [show N + 2 - (k + 1 + 1) = N + 1 - (k + 1) by omega]; exact q2⟩
    · obtain ⟨F2, q1⟩ := g2 (by omega)
      have := goS_shift F2 s' (k + 1) 0 (N + 1) 1 _ q1
      exact ⟨F + F2, ho (k + 1 + 1) F2 _ (by omega) (by simpa using this)⟩
end Go.Proofs.YtlobegpjenabaaaGreatDoor
