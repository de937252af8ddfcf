/- read: begin. -/
import Derived.Test.YtlobegpjenabaaaGreatDoorImpOpen
import Derived.RangeFuncOwn
namespace Go.Proofs.YtlobegpjenabaaaGreatDoor
open Go.RowKit
set_option linter.unusedSimpArgs false
set_option linter.unusedVariables false

/-- Of what was there the reader's block, and rows from block B on, alone may have turned; what is no cells lies as it lay. -/
structure UpdR (R B : Nat) (w w' : World) : Prop where
  upd : Upd (fun k => k = R ∨ B ≤ k) w w'
  keeps : KeepsOthers w w'
  piece : ∀ (k : Nat) (c : Array Value) (f : Nat × Nat), w.heap[k]? = some (Obj.cells c 128 f) → w'.heap[k]? = some (Obj.cells c 128 f)
theorem UpdR.trans {R B : Nat} {a b c : World} (h : UpdR R B a b) (k : UpdR R B b c) : UpdR R B a c := ⟨h.upd.trans k.upd (fun _ _ h => h), h.keeps.trans k.keeps, fun j x f hj => k.piece j x f (h.piece j x f hj)⟩
theorem UpdR.of_upd {R B : Nat} {w w' : World} {S : Nat → Prop} (hu : Upd S w w') (hS : ∀ k, S k → (k = R ∨ B ≤ k) ∧ ∃ c e f, w.heap[k]? = some (Obj.cells c e f) ∧ e ≠ 128) : UpdR R B w w' :=
  ⟨hu.mono (fun k hk => (hS k hk).1), ⟨hu.size, fun k o hk ho => hu.at hk (fun hs => by obtain ⟨_, c, e, f, hc, _⟩ := hS k hs; rw [hk] at hc; cases hc; cases ho)⟩,
    fun k x f hk => hu.at hk (fun hs => by obtain ⟨_, c, e, f', hc, hne⟩ := hS k hs; rw [hk] at hc; cases hc; exact hne rfl)⟩
theorem UpdR.of_below {R B : Nat} {w w' : World} (h : Below w.heap.size w w') : UpdR R B w w' := UpdR.of_upd (Upd.of_below (fun _ => False) h) (fun _ h => h.elim)
theorem UpdR.refl (R B : Nat) (w : World) : UpdR R B w w := UpdR.of_below (Below.refl _ _)
theorem ownsRow_cells {w : World} {base e size n : Nat} {v : Value} {xs : List Value} (h : w.ownsRow base e size v n xs) (he : e ≠ 128) {k : Nat} (hk : v.ownBlock = some k) : ∃ c e f, w.heap[k]? = some (Obj.cells c e f) ∧ e ≠ 128 := by
  rcases h.2 with ⟨hv, _⟩ | ⟨g', cap, cu, hv, hb, hg, r⟩
  · rw [hv] at hk; cases hk
  · rw [hv] at hk; cases hk; exact ⟨_, _, _, hg, he⟩
theorem cellsR {w : World} {R k : Nat} {fv ov : Value} (h : w.heap[R]? = some (rdr fv ov)) (e : k = R) : ∃ c e f, w.heap[k]? = some (Obj.cells c e f) ∧ e ≠ 128 := by subst e; exact ⟨_, _, _, h, by decide⟩

theorem infoO : (Tryz.prog.info? 250).map (fun i => (i.zero, i.size, i.bytes)) = some (some (.agg #[.bool false, .slice none 0 0]), 2, 32) := by kernel_rfl

theorem RdOk.below {w w' : World} {R B : Nat} {forms : List D} {opens : List (Bool × List D)} {fv ov : Value} {fs : List Value} {its : List (Value × List Value)} (h : RdOk w R B forms opens fv ov fs its) (hb : Below w.heap.size w w') : RdOk w' R B forms opens fv ov fs its := by
  have hu := Upd.of_below (fun _ => False) hb
  have hk := Keep.of_below (T := 205) hb
  exact ⟨hu.at h.hR (fun h => h), h.hlt, ownsRow_of_upd h.hf hu (fun _ _ h => h), IVs.keep hk _ _ _ h.hfi, ownsRow_of_upd h.ho hu (fun _ _ h => h), h.hits.keep hu hk (fun _ _ _ _ h => h), h.ap⟩

theorem news2 {w : World} {b : Nat} {a0 a1 : Value} {T : TypeId} {fz : Nat × Nat} (h : w.heap[b]? = some (Obj.cells #[a0, a1] T fz)) : ∀ (j : Nat) u, [a0, a1][j]? = some u → w.cell? (Addr.add ⟨b, 0, none⟩ j) = some u := World.news_of_block h

/-- One more is open. -/
theorem begin_ok {w w1 : World} {R B g cap : Nat} {forms : List D} {opens : List (Bool × List D)} {fv ov : Value} {fs : List Value} {its : List (Value × List Value)} {q : Bool} (h : RdOk w R B forms opens fv ov fs its) (hu : Upd (fun k => ov.ownBlock = some k) w w1)
    (ho : w1.ownsRow B 250 2 (.slice (some ⟨g, 0, none⟩) (its.length + 1) cap) (its.length + 1) (flatO opens.reverse its ++ [.bool q, .slice none 0 0])) (W' : World) (hW : W' = w1.setCell ⟨R, 1, none⟩ (.slice (some ⟨g, 0, none⟩) (its.length + 1) cap)) :
    RdOk W' R B forms ((q, []) :: opens) fv (.slice (some ⟨g, 0, none⟩) (its.length + 1) cap) fs (its ++ [(.slice none 0 0, [])]) ∧ UpdR R B w W' := by
  have hR1 := hu.at h.hR (fun hx => by have := (ownsRow_ge h.ho hx).1; have := h.hlt; omega)
  have hus : Upd (fun k => k = R) w1 W' := by rw [hW]; exact (Upd.refl (fun k => k = R) w1).setCell ⟨R, 1, none⟩ _ (fun _ => rfl)
  have hk1 : Keep 205 w w1 := Keep.of_upd hu (fun k c hx hh => by have := ownsRow_tag h.ho hx hh; exact absurd this (by decide))
  have hk2 : Keep 205 w1 W' := Keep.of_upd hus (by intro k c hx; subst hx; rw [hR1]; simp [rdr])
  have hkk := hk1.trans hk2
  have huu : Upd (fun k => k = R ∨ ov.ownBlock = some k) w W' := (hu.mono (fun j hj => Or.inr hj)).trans hus (fun j _ hj => Or.inl hj)
  have hne : ∀ (v : Value) (vs : List Value), RowI B w v vs → ∀ k, v.ownBlock = some k → ¬ (k = R ∨ ov.ownBlock = some k) := by
    intro v vs hr k hk hx
    rcases hx with rfl | hx
    · have := (ownsRow_ge hr hk).1; have := h.hlt; omega
    · rcases hr.2 with ⟨hv, _⟩ | ⟨g', cap', cu, hv, hb, hg, r⟩
      · rw [hv] at hk; cases hk
      · rw [hv] at hk; cases hk
        have := ownsRow_tag h.ho hx hg
        exact absurd this (by decide)
  have hl := h.hits.length
  refine ⟨⟨?_, h.hlt, ownsRow_of_upd h.hf huu (fun k hk => hne fv fs h.hf k hk), IVs.keep hkk _ _ _ h.hfi, ?_, ?_, ?_⟩, UpdR.of_upd huu (fun k hk => hk.elim (fun e => ⟨Or.inl e, cellsR h.hR e⟩) (fun e => ⟨Or.inr (ownsRow_ge h.ho e).1, ownsRow_cells h.ho (by decide) e⟩))⟩
  · rw [hW]; exact heap_setCell_same hR1
  · rw [List.reverse_cons, flatO_snoc hl, List.length_append]
    refine ownsRow_of_upd ho hus (fun k hk hx => ?_)
    subst hx
    have := (ownsRow_ge ho hk).1; have := h.hlt; omega
  · rw [List.reverse_cons]
    refine OpensOk.snoc (h.hits.keep huu hkk (fun x hx k hk => hne x.1 x.2 (h.hits.rows x hx) k hk)) (RowI.nil _ _) trivial
  · rw [List.map_append, ← List.cons_append]
    rw [List.pairwise_append]
    exact ⟨h.ap, by simp, fun a _ b hb g h1 h2 => by simp at hb; subst hb; cases h2⟩

set_option maxRecDepth 100000 in
set_option maxHeartbeats 1000000 in
theorem begin_any (w : World) (R B : Nat) (forms : List D) (opens : List (Bool × List D)) (fv ov : Value) (fs : List Value) (its : List (Value × List Value)) (q : Bool) (h : RdOk w R B forms opens fv ov fs its) (hB : B ≤ w.heap.size) (h20 : opens.length ≤ 20) :
    Calls Tryz.prog 84 #[.pointer (some ⟨R, 0, none⟩), .bool q] w fun e w' =>
      (20 ≤ opens.length → e = .returned (.int .i64 3) ∧ w' = w) ∧
      (opens.length < 20 → e = .returned (.int .i64 0) ∧ ∃ ov' its', RdOk w' R B forms ((q, []) :: opens) fv ov' fs its' ∧ UpdR R B w w') := by
  have hl := h.hits.length
  simp only [List.length_reverse] at hl
  obtain ⟨a, cap, hv, hc1, hc2, _⟩ := ownsRow_slice h.ho
  subst hv
  have c1 := cell_of_block h.hR 1
  have f1 := frozen_of_block h.hR 1
  simp at c1
  have HH := hide h
  by_cases h20' : 20 ≤ opens.length
  · have i1 : (20 : Int) ≤ (its.length : Int) := by omega
    clear h
    go_enter Tryz.func84, Tryz.ntmps84
    go_wp2
    go_ret
    exact ⟨fun _ => ⟨rfl, rfl⟩, fun h => absurd h (by omega)⟩
  · have i1 : ¬ (20 : Int) ≤ (its.length : Int) := by omega
    have hRl := lt_of_some h.hR
    have hRB := h.hlt
    obtain ⟨i0, hinf, hz0, hz1, hz2⟩ := info_parts infoO
    have HI := hide (And.intro hinf (And.intro hz0 (And.intro hz1 hz2)))
    clear hinf hz0 hz1 hz2 h
    go_enter Tryz.func84, Tryz.ntmps84
    go_wp2_with (at_builtin; refine wpList_append_lies _ rfl (.tmp 15) (.tmp 18) 120 rfl B 250 i0 (.agg #[.bool false, .slice none 0 0]) 2 32 Tryz.underlying120 HI.out.1 HI.out.2.1 HI.out.2.2.1 HI.out.2.2.2 rfl (by decide) _ its.length (flatO opens.reverse its) rfl (HH.out.ho.alloc _) ⟨w.heap.size, 0, none⟩ 1 1 [.bool q, .slice none 0 0] rfl rfl (news2 (heap_alloc_new _ _)) (by intro u hu; simp at hu; rcases hu with rfl | rfl <;> rfl) (by decide) (by unfold maxLen; omega) (by omega) (by simp; omega) (w.heap.size + 1) (by simp) ?_)
    intro g' cap' w1 hown1 hgrow hat hlt1
    have hu1 := items_upd hgrow
    have hR1 := hu1.at HH.out.hR (fun hx => by have := (ownsRow_ge HH.out.ho hx).1; omega)
    have d1 := cell_of_block hR1 1
    have f1 := frozen_of_block hR1 1
    simp at d1
    have HO := hide hown1
    have HU := hide hu1
    clear hown1 hgrow hu1 hR1 hat c1
    go_wp2
    go_ret
    refine ⟨fun h => absurd h (by omega), fun _ => ⟨rfl, ?_⟩⟩
    obtain ⟨hok, hup⟩ := begin_ok (q := q) HH.out HU.out HO.out _ rfl
    exact ⟨_, _, hok, hup⟩
end Go.Proofs.YtlobegpjenabaaaGreatDoor
