/- read.Data: the forms of a text, or what is wrong with it, and where. -/
import Derived.Test.YtlobegpjenabaaaGreatDoorL05
namespace Go.Proofs.YtlobegpjenabaaaGreatDoor
open Go.RowKit Go.Shelf
set_option linter.unusedSimpArgs false
set_option linter.unusedVariables false
attribute [local go_sem] Oper.semAt_some

/-- The pieces one by one, up to the first that is wrong. -/
def feedP : List Pc → (List D × List (Bool × List D)) → Sum (Int × Nat) (List D × List (Bool × List D))
  | [], st => .inr st
  | x :: r, st => match takeS st.1 st.2 x.1.1.data.toList with
    | .inl e => .inl (e, x.1.2)
    | .inr st' => feedP r st'
theorem feedP_snoc_ok : ∀ (pre : List Pc) (x : Pc) (st0 st : List D × List (Bool × List D)), feedP pre st0 = .inr st → feedP (pre ++ [x]) st0 = match takeS st.1 st.2 x.1.1.data.toList with | .inl e => .inl (e, x.1.2) | .inr st' => .inr st'
  | [], x, st0, st, h => by cases h; rfl
  | y :: r, x, st0, st, h => by
    simp only [List.cons_append, feedP] at *
    cases ht : takeS st0.1 st0.2 y.1.1.data.toList with
    | inl e => rw [ht] at h; cases h
    | inr st' => rw [ht] at h; exact feedP_snoc_ok r x st' st h
theorem feedP_err : ∀ (pre rest : List Pc) (st0 : List D × List (Bool × List D)) (e : Int × Nat), feedP pre st0 = .inl e → feedP (pre ++ rest) st0 = .inl e
  | [], rest, st0, e, h => by cases h
  | y :: r, rest, st0, e, h => by
    simp only [List.cons_append, feedP] at *
    cases ht : takeS st0.1 st0.2 y.1.1.data.toList with
    | inl e => rw [ht] at h; exact h
    | inr st' => rw [ht] at h; exact feedP_err r rest st' e h

/-- The forms of a text, by a stack of what is open. -/
def dataS (s : ByteArray) : Res (List D) :=
  if hs : s.size ≤ 1000 then
    match feedP (pcsB s hs (s.size + 1) 0) ([], []) with
    | .inl e => .inl e
    | .inr st => if st.2.isEmpty then .inr st.1 else .inl (2, s.size)
  else .inl (1, 1000)

def DataPost (w : World) (r : Res (List D)) (e : Ending) (w' : World) : Prop :=
  Below w.heap.size w w' ∧ (∀ er p, r = .inl (er, p) → e = .returned (.tuple #[.slice none 0 0, .int .i64 er, .int .i64 (p : Nat)])) ∧
    (∀ f, r = .inr f → ∃ v vs, e = .returned (.tuple #[v, .int .i64 0, .int .i64 0]) ∧ RowI w.heap.size w' v vs ∧ IVs w' 21 vs f)

set_option maxHeartbeats 400000 in
theorem pieces_any (s : ByteArray) (w : World) :
    Calls Tryz.prog 53 #[.string s] w fun e w' => e = .returned (.func (.func 81) #[] #[.pointer (some ⟨w.heap.size, 0, none⟩)]) ∧ w' = w.alloc (.cells #[.string s] 9) := by
  have hmf : ∀ (fn : Fn) (first cap : Array Value) (w : World), (Instr.makeFunc fn first cap).run Tryz.prog w = .ok (.func fn first cap) w := fun _ _ _ _ => rfl
  go_enter Tryz.func53, Tryz.ntmps53
  go_wp2
  go_ret
  exact ⟨rfl, rfl⟩

set_option maxRecDepth 100000 in
set_option maxHeartbeats 2000000 in
theorem data_long (s : ByteArray) (hs : 1000 < s.size) (hm : s.size ≤ maxLen) (w : World) : Calls Tryz.prog 39 #[.string s] w (DataPost w (.inl (1, 1000))) := by
  unfold maxLen at hm
  have i1 : (1000 : Int) < (s.size : Int) := by omega
  go_enter Tryz.func39, Tryz.ntmps39
  go_wp2
  refine bodyPost_ret (v := .tuple #[.slice none 0 0, .int .i64 1, .int .i64 1000]) (by simp [results, Tryz.results39, go_sem]) rfl ?_
  exact ⟨(((Below.refl _ w).alloc (Nat.le_refl _) _).alloc (by simp) _).alloc (by simp; omega) _, (fun er p h => by cases h; rfl), (fun f h => by cases h)⟩

/-- The three results in memory. -/
structure Res3 (W : World) (b : Nat) (v1 v2 v3 : Value) : Prop where
  h1 : W.heap[b]? = some (Obj.cells #[v1] 76 (0, 0))
  h2 : W.heap[b + 1]? = some (Obj.cells #[v2] 48 (0, 0))
  h3 : W.heap[b + 1 + 1]? = some (Obj.cells #[v3] 3 (0, 0))

/-- Where blocks that are no cells turn, the reader is as it was. -/
theorem RdOk.own {w w' : World} {S : Nat → Prop} {R B : Nat} {forms : List D} {opens : List (Bool × List D)} {fv ov : Value} {fs : List Value} {its : List (Value × List Value)} (h : RdOk w R B forms opens fv ov fs its) (hu : Upd S w w')
    (hS : ∀ k, S k → ∃ o, w.heap[k]? = some o ∧ o.isCells = false) : RdOk w' R B forms opens fv ov fs its := by
  have hn : ∀ k c e f, w.heap[k]? = some (Obj.cells c e f) → ¬ S k := fun k c e f hk hs => by obtain ⟨o, ho, hc⟩ := hS k hs; rw [hk] at ho; cases ho; cases hc
  have hk : Keep 205 w w' := Keep.of_upd hu (fun k c hs hh => hn k _ _ _ hh hs)
  have hrow : ∀ {e n z : Nat} {v : Value} {xs : List Value}, w.ownsRow B e z v n xs → ∀ k, v.ownBlock = some k → ¬ S k := by
    intro e n z v xs hr k hk
    rcases hr.2 with ⟨hv, _⟩ | ⟨g', cap, cu, hv, hb, hg, r⟩
    · rw [hv] at hk; cases hk
    · rw [hv] at hk; cases hk; exact hn _ _ _ _ hg
  exact ⟨hu.at h.hR (hn _ _ _ _ h.hR), h.hlt, ownsRow_of_upd h.hf hu (hrow h.hf), IVs.keep hk _ _ _ h.hfi, ownsRow_of_upd h.ho hu (hrow h.ho), h.hits.keep hu hk (fun x hx k hk => hrow (h.hits.rows x hx) k hk), h.ap⟩
theorem Res3.upd {w w' : World} {S : Nat → Prop} {b : Nat} {v1 v2 v3 : Value} (h : Res3 w b v1 v2 v3) (hu : Upd S w w') (hS : ∀ k, S k → (∀ c e f, ¬ w.heap[k]? = some (Obj.cells c e f)) ∨ b + 1 + 1 < k) : Res3 w' b v1 v2 v3 :=
  ⟨hu.at h.h1 (fun hs => (hS _ hs).elim (fun hn => hn _ _ _ h.h1) (fun hl => by omega)), hu.at h.h2 (fun hs => (hS _ hs).elim (fun hn => hn _ _ _ h.h2) (fun hl => by omega)), hu.at h.h3 (fun hs => (hS _ hs).elim (fun hn => hn _ _ _ h.h3) (fun hl => by omega))⟩
theorem not_cells {w : World} {k : Nat} (h : ∃ o, w.heap[k]? = some o ∧ o.isCells = false) : ∀ c e f, ¬ w.heap[k]? = some (Obj.cells c e f) := fun c e f hk => by obtain ⟨o, ho, hc⟩ := h; rw [hk] at ho; cases ho; cases hc

/-- What holds between two rounds: so many pieces have come. -/
structure DatI (w W0 : World) (pre : List Pc) (W : World) : Prop where
  rd : ∃ st, feedP pre ([], []) = .inr st ∧ st.2.length ≤ 20 ∧ cntS st.1 st.2 ≤ pre.length ∧ ∃ fv ov fs its, RdOk W (w.heap.size + 1 + 1 + 1) W0.heap.size st.1 st.2 fv ov fs its
  res : Res3 W w.heap.size (.slice none 0 0) (.int .i64 0) (.int .i64 0)
  low : Below w.heap.size w W
  size : W0.heap.size ≤ W.heap.size
/-- A round has left by a return. -/
def DatX (w : World) (c : Code) (pre : List Pc) (W : World) : Prop :=
  c = .ret ∧ ∃ er p, feedP pre ([], []) = .inl (er, p) ∧ Res3 W w.heap.size (.slice none 0 0) (.int .i64 er) (.int .i64 (p : Nat)) ∧ Below w.heap.size w W
theorem upd_grown {w w' : World} {row : Option Nat} (hg : w.grownBy w' row) : Upd (fun k => row = some k) w w' := ⟨hg.os, hg.tape, hg.output, hg.size, fun k hk hn => hg.block k hk (fun e => hn e.symm)⟩
theorem DatI.own (w W0 : World) (h0 : w.heap.size ≤ W0.heap.size) : OwnFrom W0.heap.size (DatI w W0) := fun pre A A' row h hg hr => by
  have hu := upd_grown hg
  obtain ⟨st, h1, h2, h3, fv, ov, fs, its, h4⟩ := h.rd
  refine ⟨⟨st, h1, h2, h3, fv, ov, fs, its, h4.own hu (fun k hk => (hr k hk).2)⟩, h.res.upd hu (fun k hk => Or.inl (not_cells (hr k hk).2)), h.low.trans (hu.below h.low.size (fun k hk => Nat.le_trans h0 (hr k hk).1)), Nat.le_trans h.size hg.size⟩
theorem DatX.own (w W0 : World) (h0 : w.heap.size ≤ W0.heap.size) (c : Code) : OwnFrom W0.heap.size (DatX w c) := fun pre A A' row h hg hr => by
  have hu := upd_grown hg
  obtain ⟨h1, er, p, h2, h3, h4⟩ := h
  exact ⟨h1, er, p, h2, h3.upd hu (fun k hk => Or.inl (not_cells (hr k hk).2)), h4.trans (hu.below h4.size (fun k hk => Nat.le_trans h0 (hr k hk).1))⟩
theorem takeS_err (forms : List D) (opens : List (Bool × List D)) (t : List UInt8) (er : Int) (h : takeS forms opens t = .inl er) : ¬ er = 0 := by
  unfold takeS at h
  split at h
  · split at h
    · cases h; omega
    · cases h
  split at h
  · split at h
    · cases h; omega
    · cases h
  split at h
  · unfold closeS at h
    split at h
    · cases h
    · cases h; omega
  split at h
  · split at h
    · cases h; omega
    · cases h
  · cases h; omega
theorem addS_len (forms : List D) : ∀ (opens : List (Bool × List D)) (d : D), (addS forms opens d).2.length ≤ opens.length
  | [], d => by simp [addS]
  | (true, ds) :: os, d => by
    have := addS_len forms os (lst [sym qsym, d])
    simp only [addS, List.length_cons]; omega
  | (false, ds) :: os, d => by simp [addS]
theorem takeS_bd (forms : List D) (opens : List (Bool × List D)) (t : List UInt8) (h20 : opens.length ≤ 20) (st : List D × List (Bool × List D)) (h : takeS forms opens t = .inr st) : st.2.length ≤ 20 ∧ cntS st.1 st.2 ≤ cntS forms opens + 1 := by
  unfold takeS at h
  split at h
  · split at h
    · cases h
    · cases h; exact ⟨by simp; omega, by simp [cntS]; omega⟩
  split at h
  · split at h
    · cases h
    · cases h; exact ⟨by simp; omega, by simp [cntS]; omega⟩
  split at h
  · unfold closeS at h
    split at h
    · rename_i ds os
      cases h
      have h1 := addS_len forms os (lst ds)
      have h2 := addS_cnt forms os (lst ds)
      simp only [List.length_cons] at h20
      refine ⟨by omega, ?_⟩
      simp only [cntS, List.map_cons, List.sum_cons] at *
      omega
    · cases h
  split at h
  · rename_i d _
    split at h
    · cases h
    · cases h
      have h1 := addS_len forms opens d
      have h2 := addS_cnt forms opens d
      exact ⟨by omega, h2⟩
  · cases h
theorem heap_set_other {w : World} {a : Addr} {v : Value} {k : Nat} {x : Obj} (h : w.heap[k]? = some x) (hne : k ≠ a.block) : (w.setCell a v).heap[k]? = some x := by rw [Below.heap_setCell _ _ _ _ hne]; exact h
/-- The three results, written. -/
theorem res_set {w W W1 : World} {R B : Nat} {u1 u2 u3 : Value} (hl : Below w.heap.size w W) (hu : UpdR R B W W1) (hr : Res3 W1 w.heap.size u1 u2 u3) (hR : w.heap.size ≤ R ∧ w.heap.size ≤ B) (v1 v2 v3 : Value) :
    KeepsOthers W (((W1.setCell ⟨w.heap.size, 0, none⟩ v1).setCell ⟨w.heap.size + 1, 0, none⟩ v2).setCell ⟨w.heap.size + 1 + 1, 0, none⟩ v3).drew ∧ Res3 (((W1.setCell ⟨w.heap.size, 0, none⟩ v1).setCell ⟨w.heap.size + 1, 0, none⟩ v2).setCell ⟨w.heap.size + 1 + 1, 0, none⟩ v3).drew w.heap.size v1 v2 v3 ∧
      Below w.heap.size w (((W1.setCell ⟨w.heap.size, 0, none⟩ v1).setCell ⟨w.heap.size + 1, 0, none⟩ v2).setCell ⟨w.heap.size + 1 + 1, 0, none⟩ v3).drew := by
  have hb1 : Below w.heap.size w W1 := hl.trans (hu.upd.below hl.size (fun k hk => by rcases hk with rfl | hk <;> omega))
  refine ⟨hu.keeps.trans ((((KeepsOthers.setCell _ _ _).trans (KeepsOthers.setCell _ _ _)).trans (KeepsOthers.setCell _ _ _)).trans (KeepsOthers.drew _)), ⟨?_, ?_, ?_⟩, (((hb1.setCell (p := ⟨w.heap.size, 0, none⟩) (Nat.le_refl _) _).setCell (p := ⟨w.heap.size + 1, 0, none⟩) (by simp) _).setCell (p := ⟨w.heap.size + 1 + 1, 0, none⟩) (by simp; omega) _).drew⟩
  · exact heap_set_other (a := ⟨w.heap.size + 1 + 1, 0, none⟩) (heap_set_other (a := ⟨w.heap.size + 1, 0, none⟩) (heap_setCell_same hr.h1) (by simp)) (by simp; omega)
  · exact heap_set_other (a := ⟨w.heap.size + 1 + 1, 0, none⟩) (heap_setCell_same (heap_set_other (a := ⟨w.heap.size, 0, none⟩) hr.h2 (by simp))) (by simp)
  · exact heap_setCell_same (heap_set_other (a := ⟨w.heap.size + 1, 0, none⟩) (heap_set_other (a := ⟨w.heap.size, 0, none⟩) hr.h3 (by simp; omega)) (by simp))
/-- The frame behind the assignment to the loop's variable. -/
def frameD (w : World) (s : ByteArray) (x : Pc) (Bx : Nat) : Act :=
  { tmps := #[.string s, undef, .pointer (some ⟨w.heap.size, 0, none⟩), .pointer (some ⟨w.heap.size + 1, 0, none⟩), .pointer (some ⟨w.heap.size + 1 + 1, 0, none⟩), .pointer (some ⟨w.heap.size + 1 + 1 + 1, 0, none⟩), .pointer (some ⟨Bx, 0, none⟩), undef, .string s, .int .i64 s.size, .bool false, .string s,
      .func (.func 81) #[] #[.pointer (some ⟨w.heap.size + 1 + 1 + 1 + 1, 0, none⟩)], .agg #[.int .i64 (kindP x.1.1.data.toList), .int .i64 x.1.2, .string x.1.1], undef, undef, undef, undef, undef, undef, undef, undef, undef, undef, undef, undef, undef, undef, undef], defers := [] }

theorem res_set0 {w W : World} {u1 u2 u3 : Value} (hl : Below w.heap.size w W) (hr : Res3 W w.heap.size u1 u2 u3) (v1 v2 v3 : Value) :
    KeepsOthers W (((W.setCell ⟨w.heap.size, 0, none⟩ v1).setCell ⟨w.heap.size + 1, 0, none⟩ v2).setCell ⟨w.heap.size + 1 + 1, 0, none⟩ v3) ∧ Res3 (((W.setCell ⟨w.heap.size, 0, none⟩ v1).setCell ⟨w.heap.size + 1, 0, none⟩ v2).setCell ⟨w.heap.size + 1 + 1, 0, none⟩ v3) w.heap.size v1 v2 v3 ∧
      Below w.heap.size w (((W.setCell ⟨w.heap.size, 0, none⟩ v1).setCell ⟨w.heap.size + 1, 0, none⟩ v2).setCell ⟨w.heap.size + 1 + 1, 0, none⟩ v3) := by
  obtain ⟨a, b, c⟩ := res_set hl (UpdR.refl w.heap.size w.heap.size W) hr ⟨Nat.le_refl _, Nat.le_refl _⟩ v1 v2 v3
  exact ⟨⟨a.size, a.same⟩, ⟨b.h1, b.h2, b.h3⟩, ⟨c.os, c.tape, c.output, c.size, c.block⟩⟩
theorem data_end {w W : World} {B d : Nat} {fv : Value} {fs : List Value} {f : List D} {u1 u2 u3 : Value} (hr : Res3 W w.heap.size u1 u2 u3) (hf : RowI B W fv fs) (hi : IVs W 21 fs f) (hB : w.heap.size + 1 + 1 < B) (hK : W.heap[d]? = some (.deferred (some []))) (v1 v2 v3 : Value) :
    RowI w.heap.size ((((W.setCell ⟨w.heap.size, 0, none⟩ v1).setCell ⟨w.heap.size + 1, 0, none⟩ v2).setCell ⟨w.heap.size + 1 + 1, 0, none⟩ v3).putObj d (.deferred none)) fv fs ∧
      IVs ((((W.setCell ⟨w.heap.size, 0, none⟩ v1).setCell ⟨w.heap.size + 1, 0, none⟩ v2).setCell ⟨w.heap.size + 1 + 1, 0, none⟩ v3).putObj d (.deferred none)) 21 fs f := by
  have hu : Upd (fun k => (w.heap.size ≤ k ∧ k ≤ w.heap.size + 1 + 1) ∨ k = d) W ((((W.setCell ⟨w.heap.size, 0, none⟩ v1).setCell ⟨w.heap.size + 1, 0, none⟩ v2).setCell ⟨w.heap.size + 1 + 1, 0, none⟩ v3).putObj d (.deferred none)) := by
    refine Upd.trans (((( Upd.refl _ W).setCell ⟨w.heap.size, 0, none⟩ v1 (fun _ => Or.inl ⟨Nat.le_refl _, by simp; omega⟩)).setCell ⟨w.heap.size + 1, 0, none⟩ v2 (fun _ => Or.inl ⟨by simp, by simp⟩)).setCell ⟨w.heap.size + 1 + 1, 0, none⟩ v3 (fun _ => Or.inl ⟨by simp; omega, Nat.le_refl _⟩)) (upd_grown (grownBy_putObj' _ d (.deferred none))) (fun j _ hj => Or.inr (by cases hj; rfl))
  have hk : Keep 205 W _ := Keep.of_upd hu (by
    intro k c hk hh
    rcases hk with ⟨h1, h2⟩ | rfl
    · have : k = w.heap.size ∨ k = w.heap.size + 1 ∨ k = w.heap.size + 1 + 1 := by omega
      rcases this with rfl | rfl | rfl
      · rw [hr.h1] at hh; simp at hh
      · rw [hr.h2] at hh; simp at hh
      · rw [hr.h3] at hh; simp at hh
    · rw [hK] at hh; cases hh)
  refine ⟨ownsRow_base (ownsRow_of_upd hf hu (fun k hkk hs => ?_)) (by omega), IVs.keep hk _ _ _ hi⟩
  rcases hs with ⟨h1, h2⟩ | rfl
  · have := (ownsRow_ge hf hkk).1; omega
  · rcases hf.2 with ⟨hv, _⟩ | ⟨g', cap, cu, hv, hb, hg, r⟩
    · rw [hv] at hkk; cases hkk
    · rw [hv] at hkk; cases hkk; rw [hK] at hg; cases hg
set_option maxHeartbeats 1000000 in
/-- The function is left, its results lie in memory. -/
theorem data_leave {R : Ending → World → Prop} {a : Act} {W : World} {b D : Nat} {v1 v2 v3 : Value} (hK : W.heap[D]? = some (.deferred (some []))) (hr : Res3 W b v1 v2 v3) (h2 : a.tmps.getD 2 undef = .pointer (some ⟨b, 0, none⟩)) (h3 : a.tmps.getD 3 undef = .pointer (some ⟨b + 1, 0, none⟩)) (h4 : a.tmps.getD 4 undef = .pointer (some ⟨b + 1 + 1, 0, none⟩))
    (hd : a.defers = [{ target := .collected D, args := #[] }]) (hR : R (.returned (.tuple #[v1, v2, v3])) (W.putObj D (.deferred none))) : bodyPostM Fence.wide 10 Tryz.prog Tryz.f39 R .ret a W := by
  obtain ⟨tm, df⟩ := a
  simp only at hd
  subst hd
  have hres : Res3 (W.putObj D (.deferred none)) b v1 v2 v3 := hr.upd (upd_grown (grownBy_putObj' W D (.deferred none))) (fun k hk => Or.inl (not_cells ⟨_, by cases hk; exact hK, rfl⟩))
  have q1 := cell_of_block hres.h1 0
  have q2 := cell_of_block hres.h2 0
  have q3 := cell_of_block hres.h3 0
  simp at q1 q2 q3
  refine ⟨by simp, .inl ⟨_, _, rfl, run_takeDeferred hK, ?_⟩⟩
  refine ⟨.tuple #[v1, v2, v3], ?_, hR⟩
  have h2' : tm[2]?.getD undef = .pointer (some ⟨b, 0, none⟩) := by simpa using h2
  have h3' : tm[3]?.getD undef = .pointer (some ⟨b + 1, 0, none⟩) := by simpa using h3
  have h4' : tm[4]?.getD undef = .pointer (some ⟨b + 1 + 1, 0, none⟩) := by simpa using h4
  simp [results, Tryz.f39, go_sem, q1, q2, q3, h2', h3', h4']

set_option maxRecDepth 100000 in
set_option maxHeartbeats 2000000 in
theorem data_short (s : ByteArray) (hs : s.size ≤ 1000) (w : World) (hm : MaxOk w) : Calls Tryz.prog 39 #[.string s] w (DataPost w (dataS s)) := by
  have i1 : ¬ (1000 : Int) < (s.size : Int) := by omega
  refine (callsIn_wide (n := 10)).1 ?_
  refine callsIn_of_wp_marks Tryz.func39 rfl trivial ?_ rfl
  simp only [Tryz.ntmps39, List.size_toArray, List.length_cons, List.length_nil, Nat.reduceAdd, Nat.reduceSub, Array.replicate_succ, Array.replicate_zero, List.push_toArray, List.append_toArray, List.nil_append, List.cons_append]
  gi_wp2_with (refine ⟨trivial, ?_⟩; gi_at_call 53; refine (callsIn_wide.2 (pieces_any _ _)).mono ?_; rintro e w' ⟨rfl, rfl⟩)
  have hb0 : Below w.heap.size w (((((w.alloc (.cells #[.slice none 0 0] 76)).alloc (.cells #[.int .i64 0] 48)).alloc (.cells #[.int .i64 0] 3)).alloc (.cells #[.slice none 0 0, .slice none 0 0] 122)).alloc (.cells #[.string s] 9)) :=
    (((((Below.refl _ w).alloc (Nat.le_refl _) _).alloc (by simp) _).alloc (by simp; omega) _).alloc (by simp; omega) _).alloc (by simp; omega) _
  have hsz : (((((w.alloc (.cells #[.slice none 0 0] 76)).alloc (.cells #[.int .i64 0] 48)).alloc (.cells #[.int .i64 0] 3)).alloc (.cells #[.slice none 0 0, .slice none 0 0] 122)).alloc (.cells #[.string s] 9)).heap.size = w.heap.size + 5 := by simp
  have g1 := heap_alloc_new w (.cells #[.slice none 0 0] 76)
  have g2 := heap_alloc_new1 w (.cells #[.slice none 0 0] 76) (.cells #[.int .i64 0] 48)
  have g3 := heap_alloc_new1 (w.alloc (.cells #[.slice none 0 0] 76)) (.cells #[.int .i64 0] 48) (.cells #[.int .i64 0] 3)
  have g4 := heap_alloc_new1 ((w.alloc (.cells #[.slice none 0 0] 76)).alloc (.cells #[.int .i64 0] 48)) (.cells #[.int .i64 0] 3) (.cells #[.slice none 0 0, .slice none 0 0] 122)
  have g5 := heap_alloc_new1 (((w.alloc (.cells #[.slice none 0 0] 76)).alloc (.cells #[.int .i64 0] 48)).alloc (.cells #[.int .i64 0] 3)) (.cells #[.slice none 0 0, .slice none 0 0] 122) (.cells #[.string s] 9)
  simp only [World.size_alloc] at g3 g4 g5
  have g1 := heap_alloc_lt (o := .cells #[.string s] 9) (heap_alloc_lt (o := .cells #[.slice none 0 0, .slice none 0 0] 122) (heap_alloc_lt (o := .cells #[.int .i64 0] 3) (heap_alloc_lt (o := .cells #[.int .i64 0] 48) g1)))
  have g2 := heap_alloc_lt (o := .cells #[.string s] 9) (heap_alloc_lt (o := .cells #[.slice none 0 0, .slice none 0 0] 122) (heap_alloc_lt (o := .cells #[.int .i64 0] 3) g2))
  have g3 := heap_alloc_lt (o := .cells #[.string s] 9) (heap_alloc_lt (o := .cells #[.slice none 0 0, .slice none 0 0] 122) g3)
  have g4 := heap_alloc_lt (o := .cells #[.string s] 9) g4
  obtain ⟨W0, hW0⟩ : ∃ W0, ((((w.alloc (.cells #[.slice none 0 0] 76)).alloc (.cells #[.int .i64 0] 48)).alloc (.cells #[.int .i64 0] 3)).alloc (.cells #[.slice none 0 0, .slice none 0 0] 122)).alloc (.cells #[.string s] 9) = W0 := ⟨_, rfl⟩
  rw [hW0] at g1 g2 g3 g4 g5 hb0 hsz ⊢
  clear hW0
  have hm0 : MaxOk W0 := hm.below hb0 hm.lt
  have h2l := hm.lt
  have hI0 : DatI w W0 [] W0 := ⟨⟨([], []), rfl, by simp, by simp [cntS], .slice none 0 0, .slice none 0 0, [], [], ⟨g4, by omega, RowI.nil _ _, trivial, World.ownsRow_nil _ _ _ _, trivial, by simp⟩⟩, ⟨g1, g2, g3⟩, hb0, Nat.le_refl _⟩
  refine wpIn_rangeFunc_ownH (α := Pc) rfl (by omega) (gf := 81) (lb := #[.pointer (some ⟨w.heap.size + 1 + 1 + 1 + 1, 0, none⟩)]) rfl trivial (enters_of Tryz.func81 (by kernel_rfl) rfl)
    (encs := encP) (Kp := KpT (w.heap.size + 1 + 1 + 1 + 1)) (S := fun xs => xs = pcsB s hs (s.size + 1) 0) (Sp := fun pre => ∃ rest, pre ++ rest = pcsB s hs (s.size + 1) 0) (N := s.size + 1) (w0 := W0) ?seq (fun h k => h.trans k) ?kb (Below.refl _ _) (fun _ => rfl)
    (DatI w W0) (DatX w) (DatI.own w W0 (by omega)) (DatX.own w W0 (by omega)) hI0
    (fun x a' W => ∃ Bx, W.heap[Bx]? = some (Obj.cells #[.int .i64 (kindP x.1.1.data.toList), .int .i64 x.1.2, .string x.1.1] 128 (0, 0)) ∧ a' = frameD w s x Bx)
    ?ax ?assign ?body ?done ?stop
  case seq =>
    intro l J Jx W hW hJ hJx hY h0
    have hTc : W.heap[w.heap.size + 1 + 1 + 1 + 1]? = some (Obj.cells #[.string s] 9 (0, 0)) := by rw [hW.block _ (by omega)]; exact g5
    exact pieces1_in 9 (by omega) l (w.heap.size + 1 + 1 + 1 + 1) s hs J Jx W hJ hY (by have := hW.size; omega) (cell_of_block hTc 0) (hm0.below hW (by omega)) h0
  case kb =>
    intro W l o o' hl ho _ _
    have hll := lt_of_some ho
    have hg := grownBy_putObj' W l o'
    exact ⟨hg.block _ (by omega) (by simp; omega), hg.block _ (by omega) (by simp; omega), hg.size⟩
  case ax =>
    intro x a' _ X Y row hx hg hr
    obtain ⟨Bx, h1, h2⟩ := hx
    exact ⟨Bx, (upd_grown hg).at h1 (fun hk => not_cells (hr _ hk).2 _ _ _ h1), h2⟩
  case assign =>
    intro l pre x W K hi hK
    have hT1 : w.heap.size + 1 + 1 + 1 + 1 < W.heap.size := by have := hi.size; omega
    have hbA : ∀ o, Below W.heap.size W (W.alloc o) := fun o => (Below.refl _ _).alloc (Nat.le_refl _) _
    have hkA : ∀ o, KpT (w.heap.size + 1 + 1 + 1 + 1) W (W.alloc o) := fun o => ⟨Below.heap_alloc W o _ hT1, Below.heap_alloc W o _ (by omega), by simp⟩
    have hiA : ∀ o, DatI w W0 pre (W.alloc o) := fun o => (DatI.own w W0 (by omega)).alloc o hi
    have HKA := hide hkA
    have HIA := hide hiA
    have HK := hide hK
    have hnA := fun o => heap_alloc_new W o
    have HNA := hide hnA
    clear hkA hiA hK hnA hbA hi
    unfold encP
    gi_wp2
    exact HK.out _ _ ((KeepsOthers.alloc _ _).from _) (HKA.out _) (HIA.out _) ⟨W.heap.size, HNA.out _, rfl⟩
  case body =>
    rintro l pre x a' W hl ⟨r, hr⟩ hI ⟨Bx, hBx, rfl⟩ hlt
    obtain ⟨st, hfe, h20, hcn, fv, ov, fs, its, hok⟩ := hI.rd
    have HOK := hide hok
    have HI := hide hI
    have HBX := hide hBx
    have HFE := hide hfe
    have c0 := cell_of_block hBx 0
    have c1 := cell_of_block hBx 1
    have c2 := cell_of_block hBx 2
    simp at c0 c1 c2
    have HTK := hide (take_any W (w.heap.size + 1 + 1 + 1) W0.heap.size st.1 st.2 fv ov fs its x.1.1 x.1.2 hok hI.size h20 (by omega) x.2.1 x.2.2)
    have hIs := hI.size
    clear hok hI hBx hfe
    have hts0 := takeS_err st.1 st.2 x.1.1.data.toList
    have HSN := hide (feedP_snoc_ok pre x ([], []) st HFE.out)
    have HT20 := hide (takeS_bd st.1 st.2 x.1.1.data.toList h20)
    cases hts : takeS st.1 st.2 x.1.1.data.toList with
    | inl er =>
      have HTC : Hid (Calls Tryz.prog 54 #[.pointer (some ⟨w.heap.size + 1 + 1 + 1, 0, none⟩), .agg #[.int .i64 (kindP x.1.1.data.toList), .int .i64 x.1.2, .string x.1.1]] W fun e W1 => e = .returned (.int .i64 er) ∧ UpdR (w.heap.size + 1 + 1 + 1) W0.heap.size W W1) := HTK.out.mono (fun e W1 h => ⟨h.2.1 er hts, h.1⟩)
      have bne0 : (er != 0) = true := by rw [bne_iff_ne]; exact hts0 er hts
      have HFX : Hid (feedP (pre ++ [x]) ([], []) = .inl (er, x.1.2)) := by show _ = _; rw [HSN.out, hts]
      clear hts hts0 HTK
      unfold frameD
      gi_wp2_with (refine ⟨trivial, ?_⟩; gi_at_call 54; refine (CallsIn.inRound l (callsIn_wide.2 HTC.out)).mono ?_; rintro e W1 ⟨rfl, hU1⟩; have hBx1 := hU1.piece Bx _ _ HBX.out; have hres1 : Res3 W1 w.heap.size (.slice none 0 0) (.int .i64 0) (.int .i64 0) := HI.out.res.upd hU1.upd (fun k hk => Or.inr (hk.elim (by omega) (by omega))); have p1 := cell_of_block hBx1 1; have q1 := cell_of_block hres1.h1 0; have q2 := cell_of_block hres1.h2 0; have q3 := cell_of_block hres1.h3 0; have f1 := frozen_of_block hres1.h1 0; have f2 := frozen_of_block hres1.h2 0; have f3 := frozen_of_block hres1.h3 0; simp at p1 q1 q2 q3; have HU1 := hide hU1; have HRES := hide hres1; clear hU1 hBx1 hres1 c0 c1 c2)
      have mixed : Tryz.prog.follows Departure.mixedOrders = true := by kernel_rfl
      gi_region_o
      all_goals
        clear mixed
        gi_wp2
        obtain ⟨hk2, hr2, hb2⟩ := res_set HI.out.low HU1.out HRES.out (by omega) (.slice none 0 0) (.int .i64 er) (.int .i64 x.1.2)
        exact ⟨hk2.from _, rfl, er, x.1.2, HFX.out, hr2, hb2⟩
    | inr st' =>
      have HTC : Hid (Calls Tryz.prog 54 #[.pointer (some ⟨w.heap.size + 1 + 1 + 1, 0, none⟩), .agg #[.int .i64 (kindP x.1.1.data.toList), .int .i64 x.1.2, .string x.1.1]] W fun e W1 => e = .returned (.int .i64 0) ∧ UpdR (w.heap.size + 1 + 1 + 1) W0.heap.size W W1 ∧ ∃ fv ov fs its, RdOk W1 (w.heap.size + 1 + 1 + 1) W0.heap.size st'.1 st'.2 fv ov fs its) := HTK.out.mono (fun e W1 h => ⟨(h.2.2 st' hts).1, h.1, (h.2.2 st' hts).2⟩)
      have HFX : Hid (feedP (pre ++ [x]) ([], []) = .inr st') := by show _ = _; rw [HSN.out, hts]
      have hbd := HT20.out st' hts
      clear hts hts0 HTK
      unfold frameD
      gi_wp2_with (refine ⟨trivial, ?_⟩; gi_at_call 54; refine (CallsIn.inRound l (callsIn_wide.2 HTC.out)).mono ?_; rintro e W1 ⟨rfl, hU1, hok1⟩; have HU1 := hide hU1; have HOK1 := hide hok1; clear hU1 hok1 c0 c1 c2)
      have hl1 := HU1.out.upd.below HI.out.low.size (fun k hk => by rcases hk with rfl | hk <;> omega)
      refine ⟨HU1.out.keeps.from _, ⟨HU1.out.upd.block _ (by omega) (by omega), HU1.out.upd.block _ (by omega) (by omega), HU1.out.upd.size⟩, ⟨⟨st', HFX.out, hbd.1, by have := hbd.2; simp; omega, HOK1.out⟩, HI.out.res.upd HU1.out.upd (fun k hk => Or.inr (hk.elim (by omega) (by omega))), HI.out.low.trans hl1, Nat.le_trans HI.out.size HU1.out.upd.size⟩⟩
  case done =>
    rintro D xs W hD rfl hI hK
    obtain ⟨st, hfe, h20, hcn, fv, ov, fs, its, hok⟩ := hI.rd
    have hil := hok.hits.length
    simp only [List.length_reverse] at hil
    obtain ⟨a, cap, hv, hc1, hc2, _⟩ := ownsRow_slice hok.ho
    obtain ⟨af, capf, hvf, hf1, hf2, _⟩ := ownsRow_slice hok.hf
    subst hv
    subst hvf
    have c0 := cell_of_block hok.hR 0
    have c1 := cell_of_block hok.hR 1
    have q1 := cell_of_block hI.res.h1 0
    have q2 := cell_of_block hI.res.h2 0
    have q3 := cell_of_block hI.res.h3 0
    have f1 := frozen_of_block hI.res.h1 0
    have f2 := frozen_of_block hI.res.h2 0
    have f3 := frozen_of_block hI.res.h3 0
    simp at c0 c1 q1 q2 q3
    have HOK := hide hok
    have HI := hide hI
    have HFE := hide hfe
    have HK := hide hK
    clear hok hI hfe hK
    cases hst : st.2 with
    | nil =>
      have hz : its.length = 0 := by rw [← hil, hst]; rfl
      have hz' : ¬ (0 : Int) < (its.length : Int) := by omega
      have HDS : Hid (dataS s = .inr st.1) := by show _ = _; unfold dataS; rw [dif_pos hs, HFE.out]; simp only [hst]; rfl
      clear hst hz
      gi_wp2
      obtain ⟨hk2, hr2, hb2⟩ := res_set0 HI.out.low HI.out.res (.slice af fs.length capf) (.int .i64 0) (.int .i64 0)
      have hK2 := hk2.same D _ HK.out rfl
      refine data_leave (D := D) hK2 hr2 (v1 := .slice af fs.length capf) rfl rfl rfl rfl ?_
      have hend := data_end HI.out.res HOK.out.hf HOK.out.hfi (by omega) HK.out (.slice af fs.length capf) (.int .i64 0) (.int .i64 0)
      refine ⟨hb2.trans ((upd_grown (grownBy_putObj' _ D (.deferred none))).below hb2.size (fun k hk => by cases hk; omega)), ?_, ?_⟩
      · intro er p h; rw [HDS.out] at h; cases h
      · intro f h; rw [HDS.out] at h; cases h
        exact ⟨_, fs, rfl, hend.1, hend.2⟩
    | cons o os =>
      have hz : (0 : Int) < (its.length : Int) := by rw [← hil, hst]; simp only [List.length_cons]; omega
      have HDS : Hid (dataS s = .inl (2, s.size)) := by show _ = _; unfold dataS; rw [dif_pos hs, HFE.out]; simp only [hst]; rfl
      clear hst
      gi_wp2
      obtain ⟨hk2, hr2, hb2⟩ := res_set0 HI.out.low HI.out.res (.slice none 0 0) (.int .i64 2) (.int .i64 s.size)
      have hK2 := hk2.same D _ HK.out rfl
      refine data_leave (D := D) hK2 hr2 (v1 := .slice none 0 0) rfl rfl rfl rfl ?_
      refine ⟨hb2.trans ((upd_grown (grownBy_putObj' _ D (.deferred none))).below hb2.size (fun k hk => by cases hk; omega)), ?_, ?_⟩
      · intro er p h; rw [HDS.out] at h; cases h; rfl
      · intro f h; rw [HDS.out] at h; cases h
  case stop =>
    rintro D c pre W hD ⟨rest, hrest⟩ ⟨rfl, er, p, hfe, hres, hlow⟩ hK
    have HDS : Hid (dataS s = .inl (er, p)) := by show _ = _; unfold dataS; rw [dif_pos hs, ← hrest, feedP_err pre rest _ _ hfe]
    have HRES := hide hres
    have HLOW := hide hlow
    have HK := hide hK
    clear hres hlow hK hfe hrest
    gi_wp2
    refine data_leave (D := D) HK.out HRES.out rfl rfl rfl rfl ?_
    refine ⟨HLOW.out.trans ((upd_grown (grownBy_putObj' _ D (.deferred none))).below HLOW.out.size (fun k hk => by cases hk; omega)), ?_, ?_⟩
    · intro er' p' h; rw [HDS.out] at h; cases h; rfl
    · intro f h; rw [HDS.out] at h; cases h

theorem data_any (s : ByteArray) (hmax : s.size ≤ maxLen) (w : World) (hm : MaxOk w) : Calls Tryz.prog 39 #[.string s] w (DataPost w (dataS s)) := by
  by_cases hs : s.size ≤ 1000
  · exact data_short s hs w hm
  · have : dataS s = .inl (1, 1000) := by unfold dataS; rw [dif_neg hs]
    rw [this]
    exact data_long s (by omega) hmax w
end Go.Proofs.YtlobegpjenabaaaGreatDoor
