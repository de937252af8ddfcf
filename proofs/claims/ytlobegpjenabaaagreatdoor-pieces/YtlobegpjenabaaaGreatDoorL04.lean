/- read: begin. -/
import Derived.Test.YtlobegpjenabaaaGreatDoorL03
import Derived.RangeFuncOwn
namespace Go.Proofs.YtlobegpjenabaaaGreatDoor
open Go.RowKit
set_option linter.unusedSimpArgs false
set_option linter.unusedVariables false

/-- Of what was there the reader's block, and rows from block B on, alone may have turned; what is no cells lies as it lay. -/
structure UpdR (R B : Nat) (w w' : World) : Prop where
  upd : Upd (fun k => k = R ∨ B ≤ k) w w'
  keeps : KeepsOthers w w'
  piece : ∀ (k : Nat) (c : Array Value) (f : Nat × Nat), w.heap[k]? = some (Obj.cells c 128 f) → w'.heap[k]? = some (Obj.cells c 128 f)
theorem UpdR.trans {R B : Nat} {a b c : World} (h : UpdR R B a b) (k : UpdR R B b c) : UpdR R B a c := ⟨h.upd.trans k.upd (fun _ _ h => h), h.keeps.trans k.keeps, fun j x f hj => k.piece j x f (h.piece j x f hj)⟩
theorem UpdR.of_upd {R B : Nat} {w w' : World} {S : Nat → Prop} (hu : Upd S w w') (hS : ∀ k, S k → (k = R ∨ B ≤ k) ∧ ∃ c e f, w.heap[k]? = some (Obj.cells c e f) ∧ e ≠ 128) : UpdR R B w w' :=
  ⟨hu.mono (fun k hk => (hS k hk).1), ⟨hu.size, fun k o hk ho => hu.at hk (fun hs => by obtain ⟨_, c, e, f, hc, _⟩ := hS k hs; rw [hk] at hc; cases hc; cases ho)⟩,
    fun k x f hk => hu.at hk (fun hs => by obtain ⟨_, c, e, f', hc, hne⟩ := hS k hs; rw [hk] at hc; cases hc; exact hne rfl)⟩
theorem UpdR.of_below {R B : Nat} {w w' : World} (h : Below w.heap.size w w') : UpdR R B w w' := UpdR.of_upd (Upd.of_below (fun _ => False) h) (fun _ h => h.elim)
theorem UpdR.refl (R B : Nat) (w : World) : UpdR R B w w := UpdR.of_below (Below.refl _ _)
theorem ownsRow_cells {w : World} {base e size n : Nat} {v : Value} {xs : List Value} (h : w.ownsRow base e size v n xs) (he : e ≠ 128) {k : Nat} (hk : v.ownBlock = some k) : ∃ c e f, w.heap[k]? = some (Obj.cells c e f) ∧ e ≠ 128 := by
  rcases h.2 with ⟨hv, _⟩ | ⟨g', cap, cu, hv, hb, hg, r⟩
  · rw [hv] at hk; cases hk
  · rw [hv] at hk; cases hk; exact ⟨_, _, _, hg, he⟩
theorem cellsR {w : World} {R k : Nat} {fv ov : Value} (h : w.heap[R]? = some (rdr fv ov)) (e : k = R) : ∃ c e f, w.heap[k]? = some (Obj.cells c e f) ∧ e ≠ 128 := by subst e; exact ⟨_, _, _, h, by decide⟩

theorem infoO : (Tryz.prog.info? 250).map (fun i => (i.zero, i.size, i.bytes)) = some (some (.agg #[.bool false, .slice none 0 0]), 2, 32) := by kernel_rfl

theorem RdOk.below {w w' : World} {R B : Nat} {forms : List D} {opens : List (Bool × List D)} {fv ov : Value} {fs : List Value} {its : List (Value × List Value)} (h : RdOk w R B forms opens fv ov fs its) (hb : Below w.heap.size w w') : RdOk w' R B forms opens fv ov fs its := by
  have hu := Upd.of_below (fun _ => False) hb
  have hk := Keep.of_below (T := 205) hb
  exact ⟨hu.at h.hR (fun h => h), h.hlt, ownsRow_of_upd h.hf hu (fun _ _ h => h), IVs.keep hk _ _ _ h.hfi, ownsRow_of_upd h.ho hu (fun _ _ h => h), h.hits.keep hu hk (fun _ _ _ _ h => h), h.ap⟩

theorem news2 {w : World} {b : Nat} {a0 a1 : Value} {T : TypeId} {fz : Nat × Nat} (h : w.heap[b]? = some (Obj.cells #[a0, a1] T fz)) : ∀ (j : Nat) u, [a0, a1][j]? = some u → w.cell? (Addr.add ⟨b, 0, none⟩ j) = some u := World.news_of_block h

/-- One more is open. -/
theorem begin_ok {w w1 : World} {R B g cap : Nat} {forms : List D} {opens : List (Bool × List D)} {fv ov : Value} {fs : List Value} {its : List (Value × List Value)} {q : Bool} (h : RdOk w R B forms opens fv ov fs its) (hu : Upd (fun k => ov.ownBlock = some k) w w1)
    (ho : w1.ownsRow B 250 2 (.slice (some ⟨g, 0, none⟩) (its.length + 1) cap) (its.length + 1) (flatO opens.reverse its ++ [.bool q, .slice none 0 0])) (W' : World) (hW : W' = w1.setCell ⟨R, 1, none⟩ (.slice (some ⟨g, 0, none⟩) (its.length + 1) cap)) :
    RdOk W' R B forms ((q, []) :: opens) fv (.slice (some ⟨g, 0, none⟩) (its.length + 1) cap) fs (its ++ [(.slice none 0 0, [])]) ∧ UpdR R B w W' := by
  have hR1 := hu.at h.hR (fun hx => by have := (ownsRow_ge h.ho hx).1; have := h.hlt; omega)
  have hus : Upd (fun k => k = R) w1 W' := by rw [hW]; exact (Upd.refl (fun k => k = R) w1).setCell ⟨R, 1, none⟩ _ (fun _ => rfl)
  have hk1 : Keep 205 w w1 := Keep.of_upd hu (fun k c hx hh => by have := ownsRow_tag h.ho hx hh; exact absurd this (by decide))
  have hk2 : Keep 205 w1 W' := Keep.of_upd hus (by intro k c hx; subst hx; rw [hR1]; simp [rdr])
  have hkk := hk1.trans hk2
  have huu : Upd (fun k => k = R ∨ ov.ownBlock = some k) w W' := (hu.mono (fun j hj => Or.inr hj)).trans hus (fun j _ hj => Or.inl hj)
  have hne : ∀ (v : Value) (vs : List Value), RowI B w v vs → ∀ k, v.ownBlock = some k → ¬ (k = R ∨ ov.ownBlock = some k) := by
    intro v vs hr k hk hx
    rcases hx with rfl | hx
    · have := (ownsRow_ge hr hk).1; have := h.hlt; omega
    · rcases hr.2 with ⟨hv, _⟩ | ⟨g', cap', cu, hv, hb, hg, r⟩
      · rw [hv] at hk; cases hk
      · rw [hv] at hk; cases hk
        have := ownsRow_tag h.ho hx hg
        exact absurd this (by decide)
  have hl := h.hits.length
  refine ⟨⟨?_, h.hlt, ownsRow_of_upd h.hf huu (fun k hk => hne fv fs h.hf k hk), IVs.keep hkk _ _ _ h.hfi, ?_, ?_, ?_⟩, UpdR.of_upd huu (fun k hk => hk.elim (fun e => ⟨Or.inl e, cellsR h.hR e⟩) (fun e => ⟨Or.inr (ownsRow_ge h.ho e).1, ownsRow_cells h.ho (by decide) e⟩))⟩
  · rw [hW]; exact heap_setCell_same hR1
  · rw [List.reverse_cons, flatO_snoc hl, List.length_append]
    refine ownsRow_of_upd ho hus (fun k hk hx => ?_)
    subst hx
    have := (ownsRow_ge ho hk).1; have := h.hlt; omega
  · rw [List.reverse_cons]
    refine OpensOk.snoc (h.hits.keep huu hkk (fun x hx k hk => hne x.1 x.2 (h.hits.rows x hx) k hk)) (RowI.nil _ _) trivial
  · rw [List.map_append, ← List.cons_append]
    rw [List.pairwise_append]
    exact ⟨h.ap, by simp, fun a _ b hb g h1 h2 => by simp at hb; subst hb; cases h2⟩

set_option maxRecDepth 100000 in
set_option maxHeartbeats 1000000 in
theorem begin_any (w : World) (R B : Nat) (forms : List D) (opens : List (Bool × List D)) (fv ov : Value) (fs : List Value) (its : List (Value × List Value)) (q : Bool) (h : RdOk w R B forms opens fv ov fs its) (hB : B ≤ w.heap.size) (h20 : opens.length ≤ 20) :
    Calls Tryz.prog 84 #[.pointer (some ⟨R, 0, none⟩), .bool q] w fun e w' =>
      (20 ≤ opens.length → e = .returned (.int .i64 3) ∧ w' = w) ∧
      (opens.length < 20 → e = .returned (.int .i64 0) ∧ ∃ ov' its', RdOk w' R B forms ((q, []) :: opens) fv ov' fs its' ∧ UpdR R B w w') := by
  have hl := h.hits.length
  simp only [List.length_reverse] at hl
  obtain ⟨a, cap, hv, hc1, hc2, _⟩ := ownsRow_slice h.ho
  subst hv
  have c1 := cell_of_block h.hR 1
  have f1 := frozen_of_block h.hR 1
  simp at c1
  have HH := hide h
  by_cases h20' : 20 ≤ opens.length
  · have i1 : (20 : Int) ≤ (its.length : Int) := by omega
    clear h
    go_enter Tryz.func84, Tryz.ntmps84
    go_wp2
    go_ret
    exact ⟨fun _ => ⟨rfl, rfl⟩, fun h => absurd h (by omega)⟩
  · have i1 : ¬ (20 : Int) ≤ (its.length : Int) := by omega
    have hRl := lt_of_some h.hR
    have hRB := h.hlt
    obtain ⟨i0, hinf, hz0, hz1, hz2⟩ := info_parts infoO
    have HI := hide (And.intro hinf (And.intro hz0 (And.intro hz1 hz2)))
    clear hinf hz0 hz1 hz2 h
    go_enter Tryz.func84, Tryz.ntmps84
    go_wp2_with (at_builtin; refine wpList_append_lies _ rfl (.tmp 15) (.tmp 18) 120 rfl B 250 i0 (.agg #[.bool false, .slice none 0 0]) 2 32 Tryz.underlying120 HI.out.1 HI.out.2.1 HI.out.2.2.1 HI.out.2.2.2 rfl (by decide) _ its.length (flatO opens.reverse its) rfl (HH.out.ho.alloc _) ⟨w.heap.size, 0, none⟩ 1 1 [.bool q, .slice none 0 0] rfl rfl (news2 (heap_alloc_new _ _)) (by intro u hu; simp at hu; rcases hu with rfl | rfl <;> rfl) (by decide) (by unfold maxLen; omega) (by omega) (by simp; omega) (w.heap.size + 1) (by simp) ?_)
    intro g' cap' w1 hown1 hgrow hat hlt1
    have hu1 := items_upd hgrow
    have hR1 := hu1.at HH.out.hR (fun hx => by have := (ownsRow_ge HH.out.ho hx).1; omega)
    have d1 := cell_of_block hR1 1
    have f1 := frozen_of_block hR1 1
    simp at d1
    have HO := hide hown1
    have HU := hide hu1
    clear hown1 hgrow hu1 hR1 hat c1
    go_wp2
    go_ret
    refine ⟨fun h => absurd h (by omega), fun _ => ⟨rfl, ?_⟩⟩
    obtain ⟨hok, hup⟩ := begin_ok (q := q) HH.out HU.out HO.out _ rfl
    exact ⟨_, _, hok, hup⟩
end Go.Proofs.YtlobegpjenabaaaGreatDoor

/- read: add, in parts. -/
namespace Go.Proofs.YtlobegpjenabaaaGreatDoor
open Go.RowKit
set_option linter.unusedSimpArgs false
set_option linter.unusedVariables false

/-- A whole datum, put where it stands. -/
def addS (forms : List D) : List (Bool × List D) → D → List D × List (Bool × List D)
  | [], d => (forms ++ [d], [])
  | (true, _) :: os, d => addS forms os (lst [sym qsym, d])
  | (false, ds) :: os, d => (forms, (false, ds ++ [d]) :: os)

theorem ownsRow_pop' {w : World} {B e size g n cap : Nat} {xs ys : List Value} (h : w.ownsRow B e size (.slice (some ⟨g, 0, none⟩) (n + 1) cap) (n + 1) (xs ++ ys)) (hx : xs.length = n * size) : w.ownsRow B e size (.slice (some ⟨g, 0, none⟩) n cap) n xs := by
  refine ⟨hx, ?_⟩
  rcases h.2 with ⟨hv, _⟩ | ⟨g', cap', cu, hv, hb, hg, h1, h2, h3, h4⟩
  · cases hv
  · cases hv
    refine Or.inr ⟨g, cap, cu, rfl, hb, hg, by omega, h2, h3, ?_⟩
    have : (cu.toList.take ((n + 1) * size)).take (n * size) = xs := by rw [h4, List.take_left' hx]
    rw [List.take_take] at this
    rw [← this]; congr 1; rw [Nat.min_eq_left]; exact Nat.mul_le_mul_right _ (by omega)

/-- The innermost that is open, in memory. -/
theorem RdOk.inner {w : World} {R B : Nat} {forms : List D} {q : Bool} {ds : List D} {os : List (Bool × List D)} {fv ov : Value} {fs : List Value} {its : List (Value × List Value)} (h : RdOk w R B forms ((q, ds) :: os) fv ov fs its) :
    ∃ g cap is' v vs, its = is' ++ [(v, vs)] ∧ ov = .slice (some ⟨g, 0, none⟩) (os.length + 1) cap ∧ is'.length = os.length ∧ os.length + 1 ≤ cap ∧ cap ≤ maxLen ∧ B ≤ g ∧ g < w.heap.size ∧
      w.cell? ⟨g, os.length * 2, none⟩ = some (.bool q) ∧ w.cell? ⟨g, os.length * 2 + 1, none⟩ = some v ∧ w.frozen? ⟨g, os.length * 2 + 1, none⟩ = false ∧ OpensOk w B 0 os.reverse is' ∧ RowI B w v vs ∧ IVs w (20 - os.length) vs ds ∧
      w.ownsRow B 250 2 (.slice (some ⟨g, 0, none⟩) (os.length + 1) cap) (os.length + 1) (flatO os.reverse is' ++ [.bool q, v]) := by
  have hits := h.hits
  rw [List.reverse_cons] at hits
  obtain ⟨is', v, vs, e, h1, h2, h3⟩ := hits.last
  subst e
  have hl := h1.length
  simp only [List.length_reverse] at hl
  have ho := h.ho
  rw [List.reverse_cons, flatO_snoc (by simpa using hl), List.length_append, List.length_singleton, ← hl] at ho
  have hfl : (flatO os.reverse is').length = os.length * 2 := by rw [flatO_length (by simpa using hl), ← hl]
  obtain ⟨g, cap, hv, hb, hg, hc1, hc2, hc⟩ := ownsRow_cell ho (by omega)
  subst hv
  refine ⟨g, cap, is', v, vs, rfl, rfl, hl.symm, hc1, hc2, hb, hg, hc _ _ ?_, hc _ _ ?_, ?_, h1, h2, by simpa using h3, ho⟩
  · rw [List.getElem?_append_right (by omega), hfl]; simp
  · rw [List.getElem?_append_right (by omega), hfl]; simp
  · rcases ho.2 with ⟨hv, _⟩ | ⟨g', cap', cu, hv, hb, hg', r⟩
    · cases hv
    · cases hv; exact frozen_of_block hg' _

/-- The innermost is left. -/
theorem leave_ok {w W' : World} {R B g cap : Nat} {forms : List D} {q : Bool} {ds : List D} {os : List (Bool × List D)} {fv : Value} {fs : List Value} {is' : List (Value × List Value)} {v : Value} {vs : List Value} (h : RdOk w R B forms ((q, ds) :: os) fv (.slice (some ⟨g, 0, none⟩) (os.length + 1) cap) fs (is' ++ [(v, vs)]))
    (hl : is'.length = os.length) (hR : W'.heap[R]? = some (rdr fv (.slice (some ⟨g, 0, none⟩) os.length cap))) (hu : Upd (fun k => k = R) w W') : RdOk W' R B forms os fv (.slice (some ⟨g, 0, none⟩) os.length cap) fs is' := by
  obtain ⟨g', cap', is2, v2, vs2, e, hv, hl2, _, _, _, _, _, _, _, hop, _, _, ho⟩ := h.inner
  obtain ⟨rfl, e2⟩ := List.append_inj' e rfl
  cases e2
  cases hv
  have hk : Keep 205 w W' := Keep.of_upd hu (by intro k c hx; subst hx; rw [h.hR]; simp [rdr])
  have hne : ∀ (v : Value) {e n : Nat} {xs : List Value} {z : Nat}, w.ownsRow B e z v n xs → ∀ k, v.ownBlock = some k → ¬ k = R := by
    intro v e n xs z hr k hk hx
    subst hx; have := (ownsRow_ge hr hk).1; have := h.hlt; omega
  refine ⟨hR, h.hlt, ownsRow_of_upd h.hf hu (hne fv h.hf), IVs.keep hk _ _ _ h.hfi, ?_, hop.keep hu hk (fun x hx => hne x.1 (hop.rows x hx)), ?_⟩
  · rw [hl]
    refine ownsRow_of_upd (ownsRow_pop' ho (by rw [flatO_length (by simpa using hl.symm), hl])) hu (fun k hk hx => ?_)
    have hx' : g = R := by cases hk; exact hx
    have := (ownsRow_ge ho (show Value.ownBlock _ = some g from rfl)).1
    have := h.hlt; omega
  · have := h.ap
    rw [List.map_append, ← List.cons_append, List.pairwise_append] at this
    exact this.1

theorem ownsRow_diff {w : World} {B1 B2 e1 e2 z1 z2 n1 n2 : Nat} {v1 v2 : Value} {xs1 xs2 : List Value} (h1 : w.ownsRow B1 e1 z1 v1 n1 xs1) (h2 : w.ownsRow B2 e2 z2 v2 n2 xs2) (hne : e1 ≠ e2) {k : Nat} (hk1 : v1.ownBlock = some k) (hk2 : v2.ownBlock = some k) : False := by
  rcases h1.2 with ⟨hv, _⟩ | ⟨g', cap', cu, hv, hb, hg, r⟩
  · rw [hv] at hk1; cases hk1
  · rw [hv] at hk1; cases hk1
    exact hne (ownsRow_tag h2 hk2 hg)

/-- The forms have one more. -/
theorem form_ok {w w1 : World} {R B g cap : Nat} {forms : List D} {fv ov u : Value} {fs : List Value} {d : D} (h : RdOk w R B forms [] fv ov fs []) (hfl : fs.length = forms.length) (hd : IV w 21 u d) (hu : Upd (fun k => fv.ownBlock = some k) w w1)
    (ho : w1.ownsRow B 81 1 (.slice (some ⟨g, 0, none⟩) (fs.length + 1) cap) (fs.length + 1) (fs ++ [u])) (W' : World) (hW : W' = w1.setCell ⟨R, 0, none⟩ (.slice (some ⟨g, 0, none⟩) (fs.length + 1) cap)) :
    RdOk W' R B (forms ++ [d]) [] (.slice (some ⟨g, 0, none⟩) (fs.length + 1) cap) ov (fs ++ [u]) [] ∧ UpdR R B w W' := by
  have hR1 := hu.at h.hR (fun hx => by have := (ownsRow_ge h.hf hx).1; have := h.hlt; omega)
  have hus : Upd (fun k => k = R) w1 W' := by rw [hW]; exact (Upd.refl (fun k => k = R) w1).setCell ⟨R, 0, none⟩ _ (fun _ => rfl)
  have hk1 : Keep 205 w w1 := Keep.of_upd hu (fun k c hx hh => by have := ownsRow_tag h.hf hx hh; exact absurd this (by decide))
  have hk2 : Keep 205 w1 W' := Keep.of_upd hus (by intro k c hx; subst hx; rw [hR1]; simp [rdr])
  have hkk := hk1.trans hk2
  have huu : UpdR R B w W' := UpdR.of_upd (S := fun k => k = R ∨ fv.ownBlock = some k) ((hu.mono (fun j hj => Or.inr hj)).trans hus (fun j _ hj => Or.inl hj)) (fun k hk => hk.elim (fun e => ⟨Or.inl e, cellsR h.hR e⟩) (fun e => ⟨Or.inr (ownsRow_ge h.hf e).1, ownsRow_cells h.hf (by decide) e⟩))
  refine ⟨⟨?_, h.hlt, ?_, IVs.append (IVs.keep hkk _ _ _ h.hfi) ⟨IV.keep hkk _ _ _ hd, trivial⟩, ?_, trivial, by simp⟩, huu⟩
  · rw [hW]; exact heap_setCell_same hR1
  · unfold RowI; rw [List.length_append]
    refine ownsRow_of_upd ho hus (fun k hk hx => ?_)
    have := (ownsRow_ge ho hk).1; have := h.hlt; omega
  · have h1 := ownsRow_of_upd h.ho hu (fun k hk hx => ownsRow_diff h.ho h.hf (by decide) hk hx)
    refine ownsRow_of_upd h1 hus (fun k hk hx => ?_)
    have := (ownsRow_ge h.ho hk).1; have := h.hlt; omega

/-- The innermost list has one more. -/
theorem item_ok {w w1 : World} {R B g cap g2 cap2 : Nat} {forms : List D} {q : Bool} {ds : List D} {os : List (Bool × List D)} {fv v u : Value} {fs vs : List Value} {is' : List (Value × List Value)} {d : D}
    (h : RdOk w R B forms ((q, ds) :: os) fv (.slice (some ⟨g, 0, none⟩) (os.length + 1) cap) fs (is' ++ [(v, vs)])) (hl : is'.length = os.length) (hd : IV w (20 - os.length) u d) (hu : Upd (fun k => v.ownBlock = some k) w w1)
    (hat : v.ownBlock = some g2 ∨ w.heap.size ≤ g2) (ho : w1.ownsRow B 81 1 (.slice (some ⟨g2, 0, none⟩) (vs.length + 1) cap2) (vs.length + 1) (vs ++ [u])) (W' : World) (hW : W' = w1.setCell ⟨g, os.length * 2 + 1, none⟩ (.slice (some ⟨g2, 0, none⟩) (vs.length + 1) cap2)) :
    RdOk W' R B forms ((q, ds ++ [d]) :: os) fv (.slice (some ⟨g, 0, none⟩) (os.length + 1) cap) fs (is' ++ [(.slice (some ⟨g2, 0, none⟩) (vs.length + 1) cap2, vs ++ [u])]) ∧ UpdR R B w W' := by
  obtain ⟨g', cap', isx, v2, vs2, e, hv, hl2, _, _, hBg, _, _, _, _, hop, hrow, hivs, hoo⟩ := h.inner
  obtain ⟨rfl, e2⟩ := List.append_inj' e rfl
  cases e2
  cases hv
  have hap := h.ap
  rw [List.map_append, ← List.cons_append, List.pairwise_append] at hap
  obtain ⟨hap1, _, hap2⟩ := hap
  have hoo1 := ownsRow_of_upd hoo hu (fun k hk hx => ownsRow_diff hoo hrow (by decide) hk hx)
  have hst := (hoo1.stored (os.length * 2 + 1) (.slice (some ⟨g2, 0, none⟩) (vs.length + 1) cap2)).1
  have hus : Upd (fun k => k = g) w1 W' := by rw [hW]; exact (Upd.refl (fun k => k = g) w1).setCell ⟨g, os.length * 2 + 1, none⟩ _ (fun _ => rfl)
  have hR1 := hu.at h.hR (fun hx => by have := (ownsRow_ge hrow hx).1; have := h.hlt; omega)
  have hR2 := hus.at hR1 (by have := h.hlt; omega)
  have hgb : (Value.slice (some ⟨g, 0, none⟩) (os.length + 1) cap).ownBlock = some g := rfl
  have hk1 : Keep 205 w w1 := Keep.of_upd hu (fun k c hx hh => by have := ownsRow_tag hrow hx hh; exact absurd this (by decide))
  have hk2 : Keep 205 w1 W' := Keep.of_upd hus (fun k c hx hh => by subst hx; have := ownsRow_tag hoo1 hgb hh; exact absurd this (by decide))
  have hkk := hk1.trans hk2
  have huu : Upd (fun k => v.ownBlock = some k ∨ k = g) w W' := (hu.mono (fun j hj => Or.inl hj)).trans hus (fun j _ hj => Or.inr hj)
  have hoth : ∀ (a : Value) (aa : List Value), RowI B w a aa → ApartV a v → ∀ k, a.ownBlock = some k → ¬ (v.ownBlock = some k ∨ k = g) := by
    intro a aa ha hav k hk hx
    rcases hx with hx | rfl
    · exact hav k hk hx
    · exact ownsRow_diff hoo ha (by decide) hgb hk
  have hfa : ApartV fv v := hap2 fv (by simp) v (by simp)
  refine ⟨⟨hR2, h.hlt, ownsRow_of_upd h.hf huu (hoth fv fs h.hf hfa), IVs.keep hkk _ _ _ h.hfi, ?_, ?_, ?_⟩, UpdR.of_upd huu (fun j hj => ?_)⟩
  · rw [List.reverse_cons, flatO_snoc (by simpa using hl.symm), List.length_append, List.length_singleton, hl, hW]
    have hfl : (flatO os.reverse is').length = os.length * 2 := by rw [flatO_length (by simpa using hl.symm), hl]
    rw [show flatO os.reverse is' ++ [Value.bool q, .slice (some ⟨g2, 0, none⟩) (vs.length + 1) cap2] = (flatO os.reverse is' ++ [Value.bool q, v]).set (os.length * 2 + 1) (.slice (some ⟨g2, 0, none⟩) (vs.length + 1) cap2) from by
      rw [List.set_append_right _ _ (by omega), hfl]; simp]
    exact hst
  · rw [List.reverse_cons]
    refine OpensOk.snoc (hop.keep huu hkk (fun x hx => hoth x.1 x.2 (hop.rows x hx) (hap2 x.1 (by simp; exact Or.inr ⟨_, hx⟩) v (by simp)))) ?_ ?_
    · unfold RowI; rw [List.length_append]
      refine ownsRow_of_upd ho hus (fun k hk hx => ?_)
      subst hx
      exact ownsRow_diff hoo1 ho (by decide) hgb hk
    · simp only [List.length_reverse, Nat.zero_add]
      exact IVs.append (IVs.keep hkk _ _ _ hivs) ⟨IV.keep hkk _ _ _ hd, trivial⟩
  · rw [List.map_append, ← List.cons_append, List.pairwise_append]
    refine ⟨hap1, by simp, fun a ha b hb k h1 h2 => ?_⟩
    simp only [List.map_cons, List.map_nil, List.mem_singleton] at hb
    subst hb
    have hkg : g2 = k := by simpa [Value.ownBlock] using h2
    subst hkg
    rcases hat with hat | hat
    · exact hap2 a ha v (by simp) g2 h1 hat
    · have : ∃ aa, RowI B w a aa := by
        rcases List.mem_cons.1 ha with rfl | ha
        · exact ⟨fs, h.hf⟩
        · obtain ⟨x, hx, rfl⟩ := List.mem_map.1 ha
          exact ⟨x.2, hop.rows x hx⟩
      obtain ⟨aa, has⟩ := this
      have := (ownsRow_ge has h1).2
      omega
  · rcases hj with hj | rfl
    · exact ⟨Or.inr (ownsRow_ge hrow hj).1, ownsRow_cells hrow (by decide) hj⟩
    · exact ⟨Or.inr hBg, ownsRow_cells hoo (by decide) hgb⟩
end Go.Proofs.YtlobegpjenabaaaGreatDoor

/- read: add. -/
namespace Go.Proofs.YtlobegpjenabaaaGreatDoor
open Go.RowKit
set_option linter.unusedSimpArgs false
set_option linter.unusedVariables false

def cntS (forms : List D) (opens : List (Bool × List D)) : Nat := forms.length + (opens.map fun o => o.2.length + 1).sum
theorem addS_cnt (forms : List D) : ∀ (opens : List (Bool × List D)) (d : D), cntS (addS forms opens d).1 (addS forms opens d).2 ≤ cntS forms opens + 1
  | [], d => by simp [addS, cntS]
  | (true, ds) :: os, d => by
    have := addS_cnt forms os (lst [sym qsym, d])
    simp only [addS]
    simp only [cntS, List.map_cons, List.sum_cons] at *
    omega
  | (false, ds) :: os, d => by simp [addS, cntS]; omega
/-- How many are open, in memory. -/
def openLen (R : Nat) (w : World) : Nat := match w.cell? ⟨R, 1, none⟩ with | some v => lenOf v | _ => 0
theorem openLen_of {w : World} {R : Nat} {fv ov : Value} (h : w.heap[R]? = some (rdr fv ov)) : openLen R w = lenOf ov := by
  have := cell_of_block (o := 1) h
  unfold openLen; rw [this]; rfl
theorem row_two_i {w : World} {b B : Nat} {v1 v2 : Value} (hB : B ≤ b) (h : w.heap[b]? = some (Obj.cells #[v1, v2] 81 (0, 0))) : RowI B w (.slice (some ⟨b, 0, none⟩) 2 2) [v1, v2] :=
  ⟨rfl, Or.inr ⟨b, 2, _, rfl, hB, h, Nat.le_refl _, by unfold maxLen; omega, rfl, rfl⟩⟩

/-- What stands in the walk of add at a round's head. -/
def AddRel (w : World) (R B : Nat) (forms : List D) (opens : List (Bool × List D)) (fv : Value) (fs : List Value) (d : D) (u : Value) (wr : World) (opens1 : List (Bool × List D)) (d1 : D) (ov1 : Value) (its1 : List (Value × List Value)) : Prop :=
  addS forms opens1 d1 = addS forms opens d ∧ RdOk wr R B forms opens1 fv ov1 fs its1 ∧ IV wr (21 - opens1.length) u d1 ∧ UpdR R B w wr ∧ opens1.length ≤ opens.length ∧ cntS forms opens1 ≤ cntS forms opens

set_option maxRecDepth 100000 in
set_option maxHeartbeats 1000000 in
theorem add_any (w : World) (R B : Nat) (forms : List D) (opens : List (Bool × List D)) (fv ov : Value) (fs : List Value) (its : List (Value × List Value)) (d : D) (u : Value) (h : RdOk w R B forms opens fv ov fs its) (hB : B ≤ w.heap.size) (h20 : opens.length ≤ 20) (hcnt : cntS forms opens ≤ 1000)
    (hd : IV w (21 - opens.length) u d) (r : List D × List (Bool × List D)) (HR : Hid (addS forms opens d = r)) :
    Calls Tryz.prog 86 #[.pointer (some ⟨R, 0, none⟩), u] w fun e w' => e = .returned (.tuple #[]) ∧ ∃ fv' ov' fs' its', RdOk w' R B r.1 r.2 fv' ov' fs' its' ∧ UpdR R B w w' := by
  have HH := hide h
  have HD := hide hd
  have hRB := h.hlt
  clear h
  obtain ⟨t0, x0, rfl⟩ := IV.form _ _ _ hd
  clear hd
  go_enter Tryz.func86, Tryz.ntmps86
  go_wp2
  go_loopw [1] (fun u wr => ∃ opens1 d1 ov1 its1, AddRel w R B forms opens fv fs d u wr opens1 d1 ov1 its1) (fun _ wr => openLen R wr)
  case atStart => exact ⟨opens, d, ov, its, rfl, HH.out, HD.out, UpdR.refl _ _ _, Nat.le_refl _, Nat.le_refl _⟩
  case round =>
    obtain ⟨opens1, d1, ov1, its1, hadd, hok, hiv, hup, hol, hcn⟩ := hrel
    obtain ⟨t1, x1, rfl⟩ := IV.form _ _ _ hiv
    have HADD := hide hadd
    have HOK := hide hok
    have HIV := hide hiv
    have HUP := hide hup
    have hBr := hup.upd.size
    have hl1 := hok.hits.length
    simp only [List.length_reverse] at hl1
    have hRl := lt_of_some hok.hR
    clear hadd hiv hup
    match opens1, hok with
    | [], hok =>
      have hits0 : its1 = [] := by cases its1 with | nil => rfl | cons a b => simp at hl1
      subst hits0
      obtain ⟨a, cap, hv, hc1, hc2, _⟩ := ownsRow_slice hok.ho
      obtain ⟨af, capf, hvf, hf1, hf2, _⟩ := ownsRow_slice hok.hf
      subst hv
      subst hvf
      have c0 := cell_of_block hok.hR 0
      have c1 := cell_of_block hok.hR 1
      have f0 := frozen_of_block hok.hR 0
      simp at c0 c1
      have hfl := hok.hfi.length
      have hfs : fs.length ≤ 1000 := by rw [hfl]; simp [cntS] at hcnt; omega
      obtain ⟨i0, hinf, hz0, hz1, hz2⟩ := info_parts infoVal
      have HI := hide (And.intro hinf (And.intro hz0 (And.intro hz1 hz2)))
      have HFL := hide hfl
      clear hinf hz0 hz1 hz2 hok hfl
      go_wp2_with (at_builtin; refine wpList_append_lies _ rfl (.tmp 34) (.tmp 36) 76 rfl B 81 i0 .nilIface 1 16 Tryz.underlying76 HI.out.1 HI.out.2.1 HI.out.2.2.1 HI.out.2.2.2 rfl (by decide) _ fs.length fs rfl (HOK.out.hf.alloc _) ⟨wr.heap.size, 0, none⟩ 1 1 [.iface t1 x1] rfl rfl (cell_one_new _ _ _) (by intro u hu; simp at hu; subst hu; rfl) (by decide) (by unfold maxLen; omega) (by omega) (by simp; omega) (wr.heap.size + 1) (by simp) ?_)
      intro g' cap' w2 hown2 hgrow hat hlt2
      have hu2 := items_upd hgrow
      have hR2 := hu2.at HOK.out.hR (fun hx => by have := (ownsRow_ge HOK.out.hf hx).1; omega)
      have d0 := cell_of_block hR2 0
      have f0 := frozen_of_block hR2 0
      simp at d0
      have HO2 := hide hown2
      have HU2 := hide hu2
      clear hown2 hgrow hu2 hR2 hat c0 c1
      go_wp2
      refine bodyPost_ret (results_none rfl _ _ _) rfl ?_
      refine ⟨rfl, ?_⟩
      obtain ⟨hok4, hup4⟩ := form_ok (d := d1) HOK.out HFL.out HIV.out HU2.out HO2.out _ rfl
      have hr : r = (forms ++ [d1], []) := by rw [← HR.out, ← HADD.out]; rfl
      rw [hr]
      exact ⟨_, _, _, _, hok4, HUP.out.trans hup4⟩
    | (true, ds) :: os, hok =>
      obtain ⟨g, cap, is', v, vs, rfl, rfl, hil, hcc1, hcc2, hBg, hgl, cq, cv, fz, hop, hrow, hivs, hoo⟩ := hok.inner
      have c1 := cell_of_block hok.hR 1
      simp at c1
      have hsz : (0 : Int) < ((os.length + 1 : Nat) : Int) := by omega
      have HOKR := hide hok.hR
      have HINN := hide (fun w' hq => innermost_any R g (os.length + 1) cap fv w' hq (by omega) hcc1 hcc2)
      clear hok hop hrow hivs hoo
      go_wp2_with fail
      refine (HINN.out _ HOKR.out).mono ?_
      rintro e w1 ⟨rfl, nq, rfl⟩
      simp only [Nat.add_sub_cancel]
      go_wp2_with fail
      have hos : os.length ≤ 19 := by simp at hol; omega
      have hb1 : ∀ q, Below wr.heap.size wr ((wr.alloc (.cells #[.iface 134 (.string ⟨#[113, 117, 111, 116, 101]⟩), .iface t1 x1] 81)).drewN q) := fun q => Upd.below (((Upd.refl (fun _ => False) wr).alloc _).drewN q) (Nat.le_refl _) (fun _ h => h.elim)
      refine (ilist_any (20 - os.length) [.iface 134 (.string ⟨#[113, 117, 111, 116, 101]⟩), .iface t1 x1] [sym qsym, d1] _ _ B (by exact row_two_i (by omega) (heap_alloc_new wr _)) ?_ (by simp)).mono ?_
      · refine ⟨?_, ?_, trivial⟩
        · rw [show 20 - os.length = (19 - os.length) + 1 from by omega]; rfl
        · have := HIV.out
          rw [show 21 - ((true, ds) :: os : List (Bool × List D)).length = 20 - os.length from by simp only [List.length_cons]; omega] at this
          exact IV.keep (Keep.of_below (hb1 _)) _ _ _ this
      rintro e w2 ⟨u2, rfl, hiv2, hb2⟩
      obtain ⟨t2, x2, rfl⟩ := IV.form _ _ _ hiv2
      have hbw2 : Below wr.heap.size wr w2 := (hb1 _).trans (hb2.mono (by simp))
      have hok2 := HOK.out.below hbw2
      have HOK2 := hide hok2
      have HIV2 := hide hiv2
      have HBW2 := hide hbw2
      clear hiv2 hb2 hbw2 hok2
      go_wp2_with fail
      refine (leave_any R g (os.length + 1) cap fv _ HOK2.out.hR (by omega) hcc1 hcc2).mono ?_
      rintro e w3 ⟨rfl, hR3, hU3⟩
      rw [Nat.add_sub_cancel] at hR3
      have hok3 := leave_ok HOK2.out hil hR3 hU3
      have hk3 : Keep 205 w2 w3 := Keep.of_upd hU3 (by intro k c hx; subst hx; rw [HOK2.out.hR]; simp [rdr])
      have HOK3 := hide hok3
      have HK3 := hide hk3
      have HU3 := hide hU3
      have HR3 := hide hR3
      clear hok3 hk3 hU3 hR3
      go_wp2
      go_roundw
      case rel =>
        refine ⟨os, lst [sym qsym, d1], _, is', by rw [← HADD.out]; rfl, HOK3.out, ?_, ?_, by simp at hol; omega, by simp [cntS] at hcn ⊢; omega⟩
        · have := IV.keep HK3.out _ _ _ HIV2.out
          rw [show 20 - os.length + 1 = 21 - os.length from by omega] at this
          exact this
        · exact (HUP.out.trans (UpdR.of_below HBW2.out)).trans (UpdR.of_upd HU3.out (fun k hk => ⟨Or.inl hk, cellsR HOK2.out.hR hk⟩))
      case measure =>
        rw [openLen_of HOKR.out, openLen_of HR3.out]
        simp [lenOf]
    | (false, ds) :: os, hok =>
      obtain ⟨g, cap, is', v, vs, rfl, rfl, hil, hcc1, hcc2, hBg, hgl, cq, cv, fz, hop, hrow, hivs, hoo⟩ := hok.inner
      have c1 := cell_of_block hok.hR 1
      simp at c1
      have hsz : (0 : Int) < ((os.length + 1 : Nat) : Int) := by omega
      have hsz0 : (((os.length + 1 : Nat) : Int) == 0) = false := by rw [beq_eq_false_iff_ne]; omega
      have HOKR := hide hok.hR
      have HINN := hide (fun w' hq => innermost_any R g (os.length + 1) cap fv w' hq (by omega) hcc1 hcc2)
      have hvl := hivs.length
      have hcn' : cntS forms ((false, ds) :: os) ≤ 1000 := Nat.le_trans hcn hcnt
      have hvs : vs.length < 1000 := by rw [hvl]; simp only [cntS, List.map_cons, List.sum_cons] at hcn'; omega
      obtain ⟨a, capv, hvv, hv1, hv2, _⟩ := ownsRow_slice hrow
      have HROW := hide hrow
      obtain ⟨i0, hinf, hz0, hz1, hz2⟩ := info_parts infoVal
      have HI := hide (And.intro hinf (And.intro hz0 (And.intro hz1 hz2)))
      clear hinf hz0 hz1 hz2 hok hop hrow hivs hoo hvl
      go_wp2_with fail
      refine (HINN.out _ HOKR.out).mono ?_
      rintro e w1 ⟨rfl, nq, rfl⟩
      simp only [Nat.add_sub_cancel]
      go_wp2_with fail
      refine (HINN.out (wr.drewN nq) HOKR.out).mono ?_
      rintro e w1 ⟨rfl, nq2, rfl⟩
      simp only [Nat.add_sub_cancel]
      generalize hWd : (wr.drewN nq).drewN nq2 = wd
      have hud : Upd (fun _ => False) wr wd := by rw [← hWd]; exact ((Upd.refl _ wr).drewN nq).drewN nq2
      have hhd : wd.heap = wr.heap := by rw [← hWd]; rfl
      clear hWd
      have cv' : wd.cell? ⟨g, os.length * 2 + 1, none⟩ = some v := by rw [World.cell?_of_block (w := wr) (by rw [hhd])]; exact cv
      have HOKD : Hid (RdOk wd R B forms ((false, ds) :: os) fv (.slice (some ⟨g, 0, none⟩) (os.length + 1) cap) fs (is' ++ [(v, vs)])) := HOK.out.below (hud.below (Nat.le_refl _) (fun _ h => h.elim))
      have HROWD : Hid (RowI B wd v vs) := ownsRow_of_upd HROW.out hud (fun _ _ h => h)
      have hgd : g < wd.heap.size := by rw [hhd]; exact hgl
      have hBd : B ≤ wd.heap.size := by rw [hhd]; omega
      have hRd : R < wd.heap.size := by rw [hhd]; exact hRl
      have HUD := hide hud
      subst hvv
      clear hud hhd cv cq c1 fz
      go_wp2_with (at_builtin; refine wpList_append_lies _ rfl (.tmp 46) (.tmp 48) 76 rfl B 81 i0 .nilIface 1 16 Tryz.underlying76 HI.out.1 HI.out.2.1 HI.out.2.2.1 HI.out.2.2.2 rfl (by decide) _ vs.length vs rfl (HROWD.out.alloc _) ⟨wd.heap.size, 0, none⟩ 1 1 [.iface t1 x1] rfl rfl (cell_one_new _ _ _) (by intro u hu; simp at hu; subst hu; rfl) (by decide) (by unfold maxLen; omega) (by omega) (by simp; omega) (wd.heap.size + 1) (by simp) ?_)
      intro g' cap' w2 hown2 hgrow hat hlt2
      have hu2 := items_upd hgrow
      obtain ⟨gx, capx, isx, vx, vsx, ex, hvx, _, _, _, _, _, _, cvx, _, _, hrowx, _, hoox⟩ := HOKD.out.inner
      obtain ⟨rfl, ex2⟩ := List.append_inj' ex rfl
      cases ex2
      cases hvx
      have hoo2 := ownsRow_of_upd hoox hu2 (fun k hk hx => ownsRow_diff hoox hrowx (by decide) hk hx)
      have f2 := hoo2.frozenAt (os.length * 2 + 1)
      have c2 : w2.cell? ⟨g, os.length * 2 + 1, none⟩ = some (.slice a vs.length capv) := by
        rw [World.cell?_of_block (w := wd) (hu2.block g hgd (fun hx => ownsRow_diff hoox hrowx (by decide) (show Value.ownBlock _ = some g from rfl) hx))]; exact cvx
      have HO2 := hide hown2
      have HU2 := hide hu2
      have HAT : Hid ((Value.slice a vs.length capv).ownBlock = some g' ∨ wd.heap.size ≤ g') := hat.imp id (fun h => by omega)
      clear hown2 hgrow hu2 hoo2 hoox hrowx cvx cv' hat
      go_wp2
      go_end0
      refine ⟨rfl, ?_⟩
      obtain ⟨hok4, hup4⟩ := item_ok (d := d1) HOKD.out hil (by have := HIV.out; rw [show 21 - ((false, ds) :: os : List (Bool × List D)).length = 20 - os.length from by simp only [List.length_cons]; omega] at this; exact IV.keep (Keep.of_upd HUD.out (fun _ _ h => h.elim)) _ _ _ this) HU2.out HAT.out HO2.out _ rfl
      have hr : r = (forms, (false, ds ++ [d1]) :: os) := by rw [← HR.out, ← HADD.out]; rfl
      rw [hr]
      exact ⟨⟨_, _, _, _, hok4⟩, (HUP.out.trans (UpdR.of_upd HUD.out (fun _ h => h.elim))).trans hup4⟩

set_option maxRecDepth 100000 in
set_option maxHeartbeats 1000000 in
/-- close: a list's end, where one is open. -/
theorem close_any (w : World) (R B : Nat) (forms : List D) (opens : List (Bool × List D)) (fv ov : Value) (fs : List Value) (its : List (Value × List Value)) (h : RdOk w R B forms opens fv ov fs its) (hB : B ≤ w.heap.size) (h20 : opens.length ≤ 20) (hcnt : cntS forms opens ≤ 1000) :
    Calls Tryz.prog 85 #[.pointer (some ⟨R, 0, none⟩)] w fun e w' =>
      ((opens = [] ∨ ∃ ds os, opens = (true, ds) :: os) → e = .returned (.int .i64 2) ∧ Below w.heap.size w w') ∧
      (∀ ds os, opens = (false, ds) :: os → e = .returned (.int .i64 0) ∧ ∃ fv' ov' fs' its', RdOk w' R B (addS forms os (lst ds)).1 (addS forms os (lst ds)).2 fv' ov' fs' its' ∧ UpdR R B w w') := by
  have HH := hide h
  have hRB := h.hlt
  match opens, h with
  | [], h =>
    have hits0 : its = [] := by have := h.hits.length; cases its with | nil => rfl | cons a b => simp at this
    subst hits0
    obtain ⟨a, cap, hv, hc1, hc2, _⟩ := ownsRow_slice h.ho
    subst hv
    have c1 := cell_of_block h.hR 1
    simp at c1
    clear h
    go_enter Tryz.func85, Tryz.ntmps85
    go_wp2
    go_ret
    exact ⟨fun _ => ⟨rfl, Below.refl _ _⟩, fun ds os h => by cases h⟩
  | (true, ds) :: os, h =>
    obtain ⟨g, cap, is', v, vs, rfl, rfl, hil, hcc1, hcc2, hBg, hgl, cq, cv, fz, hop, hrow, hivs, hoo⟩ := h.inner
    have c1 := cell_of_block h.hR 1
    simp at c1
    have hsz0 : (((os.length + 1 : Nat) : Int) == 0) = false := by rw [beq_eq_false_iff_ne]; omega
    have HINN := hide (innermost_any R g (os.length + 1) cap fv w h.hR (by omega) hcc1 hcc2)
    clear h hop hrow hivs hoo
    go_enter Tryz.func85, Tryz.ntmps85
    go_wp2_with fail
    refine HINN.out.mono ?_
    rintro e w1 ⟨rfl, nq, rfl⟩
    simp only [Nat.add_sub_cancel]
    go_wp2
    go_ret
    exact ⟨fun _ => ⟨rfl, Upd.below ((Upd.refl (fun _ => False) w).drewN nq) (Nat.le_refl _) (fun _ h => h.elim)⟩, fun ds os h => by cases h⟩
  | (false, ds) :: os, h =>
    obtain ⟨g, cap, is', v, vs, rfl, rfl, hil, hcc1, hcc2, hBg, hgl, cq, cv, fz, hop, hrow, hivs, hoo⟩ := h.inner
    have c1 := cell_of_block h.hR 1
    simp at c1
    have hsz0 : (((os.length + 1 : Nat) : Int) == 0) = false := by rw [beq_eq_false_iff_ne]; omega
    have HINN := hide (fun w' hq => innermost_any R g (os.length + 1) cap fv w' hq (by omega) hcc1 hcc2)
    have HHR := hide h.hR
    have HROW := hide hrow
    have HIVS := hide hivs
    have hdl : ds.length ≤ 1000 := by simp only [cntS, List.map_cons, List.sum_cons] at hcnt; omega
    have hcn2 : cntS forms os ≤ 1000 := by simp only [cntS, List.map_cons, List.sum_cons] at hcnt ⊢; omega
    have hos : os.length ≤ 19 := by simp at h20; omega
    clear h hop hrow hivs hoo
    go_enter Tryz.func85, Tryz.ntmps85
    go_wp2_with fail
    refine (HINN.out w HHR.out).mono ?_
    rintro e w1 ⟨rfl, nq, rfl⟩
    simp only [Nat.add_sub_cancel]
    go_wp2_with fail
    refine (HINN.out (w.drewN nq) HHR.out).mono ?_
    rintro e w1 ⟨rfl, nq2, rfl⟩
    simp only [Nat.add_sub_cancel]
    generalize hWd : (w.drewN nq).drewN nq2 = wd
    have hud : Upd (fun _ => False) w wd := by rw [← hWd]; exact ((Upd.refl _ w).drewN nq).drewN nq2
    have hhd : wd.heap = w.heap := by rw [← hWd]; rfl
    clear hWd
    have cv' : wd.cell? ⟨g, os.length * 2 + 1, none⟩ = some v := by rw [World.cell?_of_block (w := w) (by rw [hhd])]; exact cv
    have hbd : Below w.heap.size w wd := hud.below (Nat.le_refl _) (fun _ h => h.elim)
    have HOKD := hide (HH.out.below hbd)
    have HBD := hide hbd
    have hBd : B ≤ wd.heap.size := by rw [hhd]; omega
    obtain ⟨av, capv, hvv, _, _, _⟩ := ownsRow_slice HROW.out
    have HVV := hide hvv
    rw [hvv] at cv'
    clear hud hhd cv cq c1 fz hvv hbd
    go_wp2_with fail
    have hvv := HVV.out
    rw [← hvv]
    refine (ilist_any (20 - os.length) vs ds v _ B (ownsRow_of_upd HROW.out (Upd.of_below (fun _ => False) HBD.out) (fun _ _ h => h)) (IVs.keep (Keep.of_below HBD.out) _ _ _ HIVS.out) hdl).mono ?_
    rintro e w2 ⟨u2, rfl, hiv2, hb2⟩
    obtain ⟨t2, x2, rfl⟩ := IV.form _ _ _ hiv2
    have hok2 := HOKD.out.below hb2
    have HOK2 := hide hok2
    have HIV2 := hide hiv2
    have HB2 := hide hb2
    clear hiv2 hb2 hok2 hvv cv'
    go_wp2_with fail
    refine (leave_any R g (os.length + 1) cap fv _ HOK2.out.hR (by omega) hcc1 hcc2).mono ?_
    rintro e w3 ⟨rfl, hR3, hU3⟩
    rw [Nat.add_sub_cancel] at hR3
    have hok3 := leave_ok HOK2.out hil hR3 hU3
    have hk3 : Keep 205 w2 w3 := Keep.of_upd hU3 (by intro k c hx; subst hx; rw [HOK2.out.hR]; simp [rdr])
    have hB3 : B ≤ w3.heap.size := by have := hU3.size; have := HB2.out.size; omega
    have HOK3 := hide hok3
    have HK3 := hide hk3
    have HU3 := hide hU3
    clear hok3 hk3 hU3 hR3
    go_wp2_with fail
    refine (add_any w3 R B forms os fv _ fs is' (lst ds) (.iface t2 x2) HOK3.out hB3 (by omega) hcn2 (by have := IV.keep HK3.out _ _ _ HIV2.out; rw [show 20 - os.length + 1 = 21 - os.length from by omega] at this; exact this) _ rfl).mono ?_
    rintro e w4 ⟨rfl, fv', ov', fs', its', hok4, hU4⟩
    have HOK4 := hide hok4
    have HU4 := hide hU4
    clear hok4 hU4
    go_wp2
    go_ret
    refine ⟨fun h => ?_, fun ds' os' h => ?_⟩
    · rcases h with h | ⟨_, _, h⟩ <;> cases h
    · cases h
      exact ⟨rfl, fv', ov', fs', its', HOK4.out, (((UpdR.of_below HBD.out).trans (UpdR.of_below HB2.out)).trans (UpdR.of_upd HU3.out (fun k hk => ⟨Or.inl hk, cellsR HOK2.out.hR hk⟩))).trans HU4.out⟩
end Go.Proofs.YtlobegpjenabaaaGreatDoor
