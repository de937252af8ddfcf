/- How what a machine knows lasts. -/
import Derived.Test.YtlobegpjenabaaaGreatDoorL19
import Derived.ArgAppend
namespace Go.Proofs.YtlobegpjenabaaaGreatDoor
open Go.RowKit
set_option linter.unusedSimpArgs false
set_option linter.unusedVariables false

theorem AppX.keep {w w' : World} {ow ow' mo mo' : Nat → Option Nat} {a : Option (V × List V)} {x u : Value} (k : Keep 205 w w') (hm : Le mo mo') (ho : ∀ b c, ow b = some 0 → w.heap[b]? = some (Obj.cells c 81 (0, 0)) → ow' b = some 0 ∧ w'.heap[b]? = some (Obj.cells c 81 (0, 0))) (h : AppX w ow mo a x u) : AppX w' ow' mo' a x u := by
  match a, h with
  | none, h => exact h
  | some (p, l), ⟨h1, xs, h2, h3⟩ => exact ⟨VX.keep k hm _ _ h1, xs, VXs.keep k hm _ _ h2, h3.imp ho ho⟩
theorem OutX.keep {w w' : World} {B : Nat} {ow ow' : Nat → Option Nat} {u : Value} {o : List (List UInt8)} (ho : ∀ b c, ow b = some 0 → w.heap[b]? = some (Obj.cells c 9 (0, 0)) → ow' b = some 0 ∧ w'.heap[b]? = some (Obj.cells c 9 (0, 0))) (h : OutX w B ow u o) : OutX w' B ow' u o := by
  obtain ⟨⟨h0, h1⟩, h2, h3⟩ := h
  rcases h1 with h1 | ⟨g, cap, cu, h4, h5, h6, h7⟩
  · exact ⟨⟨h0, .inl h1⟩, (fun k hk => by rw [h1.1] at hk; cases hk), h3⟩
  · have hg := ho g cu (h2 g (by rw [h4]; rfl)) h6
    refine ⟨⟨h0, .inr ⟨g, cap, cu, h4, h5, hg.2, h7⟩⟩, fun k hk => ?_, h3⟩
    rw [h4] at hk; cases hk; exact hg.1

theorem RS.hBw {B K : Nat} {w : World} {X : Nat → Prop} {ow mo mf : Nat → Option Nat} {M b : Nat} {C : Cd} {s : MS} {val app args out : Value} {top : Option Addr} {gf : Nat} (h : RS B K w X ow mo mf M b C s val app args out top gf) : B ≤ w.heap.size := by
  obtain ⟨c, u0, u1, u2, u3, x1, x3, hc⟩ := h.code
  exact Nat.le_trans h.hB hc.lb
/-- What holds where blocks of S alone have turned, and X and the marks have grown. -/
theorem RS.gen {B K : Nat} {w w' : World} {X X' S : Nat → Prop} {ow ow' mo mf : Nat → Option Nat} {M b : Nat} {C : Cd} {s : MS} {val app args out : Value} {top : Option Addr} {gf : Nat} (h : RS B K w X ow mo mf M b C s val app args out top gf)
    (hu : Upd S w w') (hS : ∀ k, S k → X k) (hX2 : ∀ k, k < w.heap.size → X' k → X k) (hOM : ow' M = some 0) (hox : ∀ k t, ow' k = some t → X' k)
    (hxt : ∀ k, X' k → (S k ∨ w.heap.size ≤ k) → ∃ c T, w'.heap[k]? = some (Obj.cells c T (0, 0)) ∧ MT.contains T = true)
    (a : Option (V × List V)) (app2 args2 : Value) (ha : AppX w' ow' mo a app2 args2) (o : List (List UInt8)) (out2 : Value) (ho : OutX w' B ow' out2 o) (fs : List Fr) (hfl : fs.length = s.frs.length)
    (hfs : ∀ i fr, fs[i]? = some fr → ∃ g pn nv vv op xs, mf i = some g ∧ FrR w' X' ow' mo mf i fr g pn nv vv op xs) :
    RS B K w' X' ow' mo mf M b C { s with app := a, out := o, frs := fs } val app2 args2 out2 top gf := by
  have hxS : XTy w B S := fun k hk => h.xty k (hS k hk)
  have k := KI.of_upd hxS hu
  have hx : ∀ b, b < w.heap.size → ¬ X b → ¬ X' b ∧ w'.heap[b]? = w.heap[b]? := fun b hb hn => ⟨fun h' => hn (hX2 b hb h'), hu.block b hb (fun h' => hn (hS b h'))⟩
  have hMl : M < w.heap.size := by obtain ⟨_, c, T, h1, _⟩ := h.xty M (h.owx M 0 h.owM); exact lt_of_some h1
  refine ⟨h.code.keep k hu.size hx, OV.keep (k _ (by decide)) (Le.refl _) _ _ h.val, h.fr, ha, h.st.keep (k _ (by decide)) (k _ (by decide)) (k _ (by decide)) (Le.refl _) (Le.refl _), ho, hfs, fun j p hp => (h.obs j p hp).keep k (Le.refl _) (Le.refl _) hx, fun i g hg => Nat.lt_of_lt_of_le (h.mlt i g hg) hu.size, h.mdm, fun i g hg => (by obtain ⟨c, T, h1, h2⟩ := h.mcl i g hg; exact ⟨c, T, k T h2 _ _ h1, h2⟩), h.inj, h.mcd, fun i g hg => by rw [hfl]; exact h.fdm i g hg, hox, fun j hj => ?_, hOM, h.tab.below (hu.below h.hBw fun j hj => (h.xty j (hS j hj)).1), h.hB⟩
  rcases Nat.lt_or_ge j w.heap.size with hlt | hge
  · have := h.xty j (hX2 j hlt hj)
    refine ⟨this.1, ?_⟩
    by_cases hs : S j
    · exact hxt j hj (.inl hs)
    · rw [hu.block j hlt hs]; exact this.2
  · exact ⟨Nat.le_trans h.hBw hge, hxt j hj (.inr hge)⟩
/-- Where the machine's own cells alone have turned. -/
theorem RS.ext' {B K : Nat} {w w' : World} {X X' : Nat → Prop} {ow ow' mo mf : Nat → Option Nat} {M b : Nat} {C : Cd} {s : MS} {val app args out : Value} {top : Option Addr} {gf : Nat} {c c' : Array Value} (h : RS B K w X ow mo mf M b C s val app args out top gf)
    (hM : w.heap[M]? = some (Obj.cells c 119 (0, 0))) (hu : Upd (fun k => k = M) w w') (hM' : w'.heap[M]? = some (Obj.cells c' 119 (0, 0)))
    (hX1 : ∀ k, X k → X' k) (hX2 : ∀ k, k < w.heap.size → X' k → X k) (hO : ∀ k, k < w.heap.size → ow' k = ow k) (hox : ∀ k t, ow' k = some t → X' k)
    (hxt : ∀ k, X' k → w.heap.size ≤ k → ∃ c T, w'.heap[k]? = some (Obj.cells c T (0, 0)) ∧ MT.contains T = true) :
    RS B K w' X' ow' mo mf M b C s val app args out top gf := by
  have hXM := h.owx M 0 h.owM
  have hk : ∀ b c T, T ≠ 119 → w.heap[b]? = some (Obj.cells c T (0, 0)) → w'.heap[b]? = some (Obj.cells c T (0, 0)) := fun b c T hT hb => by
    rw [hu.block b (lt_of_some hb) (fun e => by subst e; rw [hM] at hb; cases hb; exact hT rfl)]; exact hb
  exact h.gen hu (fun k e => by subst e; exact hXM) hX2 (by rw [hO M (lt_of_some hM)]; exact h.owM) hox (fun k hk hs => by
      rcases hs with e | hs
      · subst e; exact ⟨_, _, hM', by decide⟩
      · exact hxt k hk hs) s.app app args (h.app.keep (fun b c hb => hk b c _ (by decide) hb) (Le.refl _) fun b c hb hc => ⟨by rw [hO b (lt_of_some hc)]; exact hb, hk b c _ (by decide) hc⟩) s.out out (h.out.keep fun b c hb hc => ⟨by rw [hO b (lt_of_some hc)]; exact hb, hk b c _ (by decide) hc⟩) s.frs rfl
    (fun i fr hi => by
      obtain ⟨g, pn, nv, vv, op, xs, h1, h2⟩ := h.frs i fr hi
      refine ⟨g, pn, nv, vv, op, xs, h1, h2.keep (fun b c hb => hk b c _ (by decide) hb) (Le.refl _) (Le.refl _) (fun b hb hw => ⟨by rw [hO b hb]; exact hw, hu.block b hb fun e => by subst e; rw [h.owM] at hw; cases hw⟩) (fun b hb hn => ⟨fun h' => hn (hX2 b hb h'), hu.block b hb fun e => by subst e; exact hn hXM⟩)⟩)
theorem RS.ext {B K : Nat} {w w' : World} {X : Nat → Prop} {ow mo mf : Nat → Option Nat} {M b : Nat} {C : Cd} {s : MS} {val app args out : Value} {top : Option Addr} {gf : Nat} {c c' : Array Value} (h : RS B K w X ow mo mf M b C s val app args out top gf)
    (hM : w.heap[M]? = some (Obj.cells c 119 (0, 0))) (hu : Upd (fun k => k = M) w w') (hM' : w'.heap[M]? = some (Obj.cells c' 119 (0, 0))) :
    RS B K w' X ow mo mf M b C s val app args out top gf :=
  h.ext' hM hu hM' (fun _ h => h) (fun _ _ h => h) (fun _ _ => rfl) h.owx (fun k hk hge => by
    obtain ⟨_, c, T, h1, _⟩ := h.xty k hk
    exact absurd (lt_of_some h1) (by omega))
/-- Where nothing that was there has turned. -/
theorem RS.below {B K : Nat} {w w' : World} {X : Nat → Prop} {ow mo mf : Nat → Option Nat} {M b : Nat} {C : Cd} {s : MS} {val app args out : Value} {top : Option Addr} {gf : Nat} {c : Array Value} (h : RS B K w X ow mo mf M b C s val app args out top gf)
    (hM : w.heap[M]? = some (Obj.cells c 119 (0, 0))) (hb : Below w.heap.size w w') : RS B K w' X ow mo mf M b C s val app args out top gf :=
  h.ext hM (Upd.of_below _ hb) (by rw [hb.block M (lt_of_some hM)]; exact hM)

/-- A map with one place more. -/
def upd1 (m : Nat → Option Nat) (i g : Nat) : Nat → Option Nat := fun j => if j = i then some g else m j
theorem upd1_at (m : Nat → Option Nat) (i g : Nat) : upd1 m i g i = some g := by simp [upd1]
theorem upd1_le (m : Nat → Option Nat) (i g : Nat) (h : m i = none) : Le m (upd1 m i g) := fun j x hj => by
  unfold upd1
  split
  · rename_i e; subst e; rw [h] at hj; cases hj
  · exact hj
/-- One more pair or procedure. -/
theorem RS.obj {B K : Nat} {w : World} {X : Nat → Prop} {ow mo mf : Nat → Option Nat} {M b : Nat} {C : Cd} {s : MS} {val app args out : Value} {top : Option Addr} {gf : Nat} (h : RS B K w X ow mo mf M b C s val app args out top gf)
    (g : Nat) (hg : g < w.heap.size) (hf : ∀ i, mo i ≠ some g) (hgc : ∃ c T, w.heap[g]? = some (Obj.cells c T (0, 0)) ∧ MT.contains T = false) (x : Option PK) (hx : ∀ p, x = some p → PrX w X (upd1 mo (2 * s.obs.length) g) mf M C (2 * s.obs.length) p) :
    RS B K w X ow (upd1 mo (2 * s.obs.length) g) mf M b C { s with obs := s.obs ++ [x] } val app args out top gf := by
  have hn : mo (2 * s.obs.length) = none := by
    cases e : mo (2 * s.obs.length) with
    | none => rfl
    | some g' => exact absurd (h.mdm _ _ e) (by omega)
  have hl := upd1_le mo _ g hn
  have kk := KI.refl w
  refine ⟨h.code, OV.keep (Keep.refl _) hl _ _ h.val, h.fr, h.app.keep (Keep.refl _) hl (fun b c hb hc => ⟨hb, hc⟩), h.st.keep (Keep.refl _) (Keep.refl _) (Keep.refl _) hl (Le.refl _), h.out, fun i fr hi => ?_, fun j p hp => ?_, fun i g' hg' => ?_, fun i g' hg' => ?_, fun i g' hg' => ?_, fun i j g' hi hj => ?_, h.mcd.trans hl, h.fdm, h.owx, h.xty, h.owM, h.tab, h.hB⟩
  · obtain ⟨g', pn, nv, vv, op, xs, h1, h2⟩ := h.frs i fr hi
    exact ⟨g', pn, nv, vv, op, xs, h1, h2.keep (Keep.refl _) hl (Le.refl _) (fun b hb hw => ⟨hw, rfl⟩) (fun b hb hn => ⟨hn, rfl⟩)⟩
  · have hp : (s.obs ++ [x])[j]? = some (some p) := hp
    rcases Nat.lt_or_ge j s.obs.length with hlt | hge
    · rw [List.getElem?_append_left hlt] at hp
      exact (h.obs j p hp).keep kk hl (Le.refl _) (fun b hb hn => ⟨hn, rfl⟩)
    · rw [List.getElem?_append_right hge] at hp
      have hj : j = s.obs.length := by
        rcases Nat.eq_or_lt_of_le hge with e | e
        · exact e.symm
        · rw [List.getElem?_eq_none (by simp; omega)] at hp; cases hp
      subst hj
      rw [Nat.sub_self] at hp
      have hp : x = some p := by simpa using hp
      exact hx p hp
  · unfold upd1 at hg'
    split at hg'
    · cases hg'; exact hg
    · exact h.mlt i g' hg'
  · show i < (s.obs ++ [x]).length
    rw [List.length_append, List.length_singleton]
    unfold upd1 at hg'
    split at hg'
    · omega
    · have := h.mdm i g' hg'; omega
  · unfold upd1 at hg'
    split at hg'
    · cases hg'; exact hgc
    · exact h.mcl i g' hg'
  · unfold upd1 at hi hj
    split at hi
    · split at hj
      · omega
      · cases hi; exact absurd hj (hf j)
    · split at hj
      · cases hj; exact absurd hi (hf i)
      · exact h.inj i j g' hi hj
/-- One more frame. -/
theorem RS.frame {B K : Nat} {w : World} {X : Nat → Prop} {ow mo mf : Nat → Option Nat} {M b : Nat} {C : Cd} {s : MS} {val app args out : Value} {top : Option Addr} {gf : Nat} (h : RS B K w X ow mo mf M b C s val app args out top gf)
    (g : Nat) (fr : Fr) (pn : ByteArray) (nv vv : Value) (op : Option Addr) (xs : List Value) (hx : FrR w X ow mo (upd1 mf s.frs.length g) s.frs.length fr g pn nv vv op xs) :
    RS B K w X ow mo (upd1 mf s.frs.length g) M b C { s with frs := s.frs ++ [fr] } val app args out top gf := by
  have hn : mf s.frs.length = none := by
    cases e : mf s.frs.length with
    | none => rfl
    | some g' => exact absurd (h.fdm _ _ e) (by omega)
  have hl := upd1_le mf _ g hn
  refine ⟨h.code, h.val, hl _ _ h.fr, h.app, h.st.keep (Keep.refl _) (Keep.refl _) (Keep.refl _) (Le.refl _) hl, h.out, fun i fr' hi => ?_, fun j p hp => (h.obs j p hp).keep (KI.refl w) (Le.refl _) hl (fun b hb hn => ⟨hn, rfl⟩), h.mlt, h.mdm, h.mcl, h.inj, h.mcd, fun i g' hg' => ?_, h.owx, h.xty, h.owM, h.tab, h.hB⟩
  · have hi : (s.frs ++ [fr])[i]? = some fr' := hi
    rcases Nat.lt_or_ge i s.frs.length with hlt | hge
    · rw [List.getElem?_append_left hlt] at hi
      obtain ⟨g', pn', nv', vv', op', xs', h1, h2⟩ := h.frs i fr' hi
      exact ⟨g', pn', nv', vv', op', xs', hl _ _ h1, h2.keep (Keep.refl _) (Le.refl _) hl (fun b hb hw => ⟨hw, rfl⟩) (fun b hb hn => ⟨hn, rfl⟩)⟩
    · rw [List.getElem?_append_right hge] at hi
      have hj : i = s.frs.length := by
        rcases Nat.eq_or_lt_of_le hge with e | e
        · exact e.symm
        · rw [List.getElem?_eq_none (by simp; omega)] at hi; cases hi
      subst hj
      rw [Nat.sub_self] at hi
      have hi : fr = fr' := by simpa using hi
      subst hi
      exact ⟨g, pn, nv, vv, op, xs, upd1_at _ _ _, hx⟩
  · show i < (s.frs ++ [fr]).length
    rw [List.length_append, List.length_singleton]
    unfold upd1 at hg'
    split at hg'
    · omega
    · have := h.fdm i g' hg'; omega
/-- A frame's own blocks have turned, and it is another now. -/
theorem RS.setf {B K : Nat} {w w' : World} {X X' : Nat → Prop} {ow ow' mo mf : Nat → Option Nat} {M b : Nat} {C : Cd} {s : MS} {val app args out : Value} {top : Option Addr} {gf : Nat} (h : RS B K w X ow mo mf M b C s val app args out top gf)
    (i : Nat) (fr : Fr) (hi : i < s.frs.length) (hu : Upd (fun k => ow k = some (i + 1)) w w')
    (hX2 : ∀ k, k < w.heap.size → X' k → X k) (hO : ∀ k, k < w.heap.size → ow k ≠ some (i + 1) → ow' k = ow k) (hox : ∀ k t, ow' k = some t → X' k)
    (hxt : ∀ k, X' k → (ow k = some (i + 1) ∨ w.heap.size ≤ k) → ∃ c T, w'.heap[k]? = some (Obj.cells c T (0, 0)) ∧ MT.contains T = true)
    (hfr : ∃ g pn nv vv op xs, mf i = some g ∧ FrR w' X' ow' mo mf i fr g pn nv vv op xs) :
    RS B K w' X' ow' mo mf M b C { s with frs := s.frs.set i fr } val app args out top gf := by
  have hxS : XTy w B (fun k => ow k = some (i + 1)) := fun k hk => h.xty k (h.owx k _ hk)
  have k := KI.of_upd hxS hu
  have h0 : ∀ b, b < w.heap.size → ∀ t, t ≠ i + 1 → ow b = some t → w'.heap[b]? = w.heap[b]? := fun b hb t ht hw => hu.block b hb (fun e => by rw [hw] at e; exact ht (by simpa using e))
  have hMl : M < w.heap.size := by obtain ⟨_, c, T, h1, _⟩ := h.xty M (h.owx M 0 h.owM); exact lt_of_some h1
  refine h.gen hu (fun k hk => h.owx k _ hk) hX2 (by rw [hO M hMl (by rw [h.owM]; simp)]; exact h.owM) hox hxt s.app app args (h.app.keep (k _ (by decide)) (Le.refl _) fun b c hb hc => ⟨by rw [hO b (lt_of_some hc) (by rw [hb]; simp)]; exact hb, by rw [h0 b (lt_of_some hc) 0 (by omega) hb]; exact hc⟩) s.out out (h.out.keep fun b c hb hc => ⟨by rw [hO b (lt_of_some hc) (by rw [hb]; simp)]; exact hb, by rw [h0 b (lt_of_some hc) 0 (by omega) hb]; exact hc⟩) _ (by simp) (fun j fr' hj => ?_)
  by_cases e : j = i
  · subst e
    rw [List.getElem?_set_self hi] at hj
    cases hj; exact hfr
  · rw [List.getElem?_set_ne (by omega)] at hj
    obtain ⟨g, pn, nv, vv, op, xs, h1, h2⟩ := h.frs j fr' hj
    exact ⟨g, pn, nv, vv, op, xs, h1, h2.keep (k _ (by decide)) (Le.refl _) (Le.refl _) (fun b hb hw => ⟨by rw [hO b hb (by rw [hw]; simp; omega)]; exact hw, h0 b hb (j + 1) (by omega) hw⟩) (fun b hb hn => ⟨fun h' => hn (hX2 b hb h'), hu.block b hb fun e => hn (h.owx b _ e)⟩)⟩
end Go.Proofs.YtlobegpjenabaaaGreatDoor

/- frame.find: where a variable stands. -/
namespace Go.Proofs.YtlobegpjenabaaaGreatDoor
open Go.RowKit
set_option linter.unusedSimpArgs false
set_option linter.unusedVariables false

/-- What slices.Index tells of numbers. -/
def idxN (l : List Int) (n : Int) : Int := match idxI l n with
  | some i => i
  | none => -1
theorem idxI_lt {l : List Int} {n : Int} {i : Nat} (h : idxI l n = some i) : i < l.length := by
  unfold idxI at h
  split at h
  · rename_i hc
    cases h
    exact List.idxOf_lt_length_of_mem (List.contains_iff_mem.1 hc)
  · cases h
theorem idxFrom_eq : ∀ (l : List Int) (x : Int) (i : Nat), Lib.idxFrom l x i = if l.contains x then ((i + l.idxOf x : Nat) : Int) else -1
  | [], x, i => rfl
  | z :: zs, x, i => by
    by_cases h : z = x
    · subst h; simp [Lib.idxFrom]
    · have h' : ¬ x = z := fun e => h e.symm
      have hb : (z == x) = false := by simp [h]
      rw [Lib.idxFrom, idxFrom_eq zs x (i + 1)]
      simp only [h, if_false, List.contains_cons, List.idxOf_cons, hb, cond_false]
      have : (x == z) = false := by simp [h']
      simp only [this, Bool.false_or]
      split
      · congr 1; omega
      · rfl
theorem idx_eq (l : List Int) (n : Int) : Lib.idxOf l n = idxN l n := by
  unfold Lib.idxOf idxN idxI
  rw [idxFrom_eq]
  split
  · simp
  · rfl
/-- slices.Index of a row of ints. -/
theorem index_rw {w : World} {own sh : Nat → Prop} {u : Value} {l : List Int} (h : Rw w 3 own sh u (l.map (Value.int .i64))) (n : Int) (hl : l.length ≤ 1000000) :
    Calls Tryz.prog 177 #[u, .int .i64 n] w fun e w' => e = .returned (.int .i64 (idxN l n)) ∧ w' = w := by
  rcases h with ⟨rfl, hx⟩ | ⟨g, off, cap, cu, rfl, h2, h2', h3, h4, h5⟩
  · have : l = [] := by simpa using hx
    subst this
    have := Tryz.slices_Index_int_empty none 0 n w
    rw [idx_eq] at this; exact this
  · simp only [List.length_map] at *
    have := Tryz.slices_Index_int g off l.length cap l n w (Nat.le_refl _) (by omega) (fun j hj => by
      rw [cell_of_block h3, ← Array.getElem?_toList]
      have hx : ((cu.toList.drop off).take l.length)[j]? = some (.int .i64 (l.getD j 0)) := by rw [h4]; simp [hj]
      rw [List.getElem?_take, if_pos hj, List.getElem?_drop] at hx
      exact hx)
    rw [List.take_length, idx_eq] at this; exact this

/-- More rounds than frames are of no use. -/
theorem findS_fuel {frs : List Fr} (ho : ∀ (i : Nat) (fr : Fr) (j : Nat), frs[i]? = some fr → fr.out = some j → j < i) (n : Int) : ∀ (i k : Nat), i ≤ k → findS frs (k + 1) i n = findS frs (i + 1) i n := by
  intro i
  induction i using Nat.strongRecOn with
  | _ i ih =>
    intro k hk
    rw [findS, findS]
    cases hf : frs[i]? with
    | none => rfl
    | some fr =>
      simp only []
      cases idxI fr.ns n with
      | some j => rfl
      | none =>
        simp only []
        cases hj : fr.out with
        | none => rfl
        | some j =>
          have hji := ho i fr j hf hj
          simp only []
          obtain ⟨k', rfl⟩ : ∃ k', k = k' + 1 := ⟨k - 1, by omega⟩
          obtain ⟨i', rfl⟩ : ∃ i', i = i' + 1 := ⟨i - 1, by omega⟩
          rw [ih j hji k' (by omega), ih j hji i' (by omega)]
/-- What find comes to. -/
def FindPost (w : World) (X : Nat → Prop) (ow mo mf : Nat → Option Nat) (s : MS) (r : Option (Nat × Nat)) (e : Ending) (w' : World) : Prop :=
  w' = w ∧ match r with
    | none => e = .returned (.pointer none)
    | some (f, j) => ∃ fr g pn nv gv off cap op xs, s.frs[f]? = some fr ∧ mf f = some g ∧ FrR w X ow mo mf f fr g pn nv (.slice (some ⟨gv, off, none⟩) xs.length cap) op xs ∧ j < xs.length ∧ e = .returned (.pointer (some ⟨gv, off + j, none⟩))
/-- In the midst of find. -/
def FindRel (mf : Nat → Option Nat) (s : MS) (n : Int) (r : Option (Nat × Nat)) : Option Addr → Prop
  | none => r = none
  | some a => ∃ i, i < s.frs.length ∧ mf i = some a.block ∧ a = ⟨a.block, 0, none⟩ ∧ findS s.frs (i + 1) i n = r
def findM (ow : Nat → Option Nat) : Value → Nat
  | .pointer (some a) => (ow a.block).getD 0
  | _ => 0

set_option maxRecDepth 100000 in
set_option maxHeartbeats 2000000 in
theorem find_go {B K : Nat} {w : World} {X : Nat → Prop} {ow mo mf : Nat → Option Nat} {M b : Nat} {C : Cd} {s : MS} {val app args out : Value} {top : Option Addr} {gf : Nat} (h : RS B K w X ow mo mf M b C s val app args out top gf) (i g : Nat) (hi : i < s.frs.length) (hg : mf i = some g) (n : Int) :
    Calls Tryz.prog 191 #[.pointer (some ⟨g, 0, none⟩), .int .i64 n] w (FindPost w X ow mo mf s (findS s.frs (i + 1) i n)) := by
  have HFR := hide h.frs
  have HO : Hid (∀ (i : Nat) (fr : Fr) (j : Nat), s.frs[i]? = some fr → fr.out = some j → j < i) := by
    intro i fr j hi hj
    obtain ⟨g, pn, nv, vv, op, xs, _, hf⟩ := h.frs i fr hi
    have := hf.out
    rw [hj] at this
    exact this.1
  obtain ⟨r, hr⟩ : ∃ r, r = findS s.frs (i + 1) i n := ⟨_, rfl⟩
  rw [← hr]
  have HS := hide (show FindRel mf s n r (some ⟨g, 0, none⟩) from ⟨i, hi, hg, rfl, hr.symm⟩)
  clear h hi hg hr
  go_enter Tryz.func191, Tryz.ntmps191
  go_wp2
  go_loopw [0] (fun p wr => ∃ q, p = .pointer q ∧ w = wr ∧ FindRel mf s n r q) (fun p _ => findM ow p)
  case atStart => exact ⟨_, rfl, rfl, HS.out⟩
  case round =>
    obtain ⟨q, rfl, rfl, hrel⟩ := hrel
    match q, hrel with
    | none, hr =>
      have hr : r = none := hr
      subst hr
      go_wp2
      go_ret
      exact ⟨rfl, rfl⟩
    | some a, ⟨i, hi, hm, ha, hr⟩ =>
      obtain ⟨ab, rfl⟩ : ∃ ab, a = ⟨ab, 0, none⟩ := ⟨_, ha⟩
      have hm : mf i = some ab := hm
      obtain ⟨fr, hfr⟩ : ∃ fr, s.frs[i]? = some fr := ⟨s.frs[i], by simp [hi]⟩
      obtain ⟨g, pn, nv, vv, op, xs, hg, hF⟩ := HFR.out i fr hfr
      rw [hm] at hg
      cases hg
      have hS := hF.hS
      have c1 := cell_of_block hS 1
      have c2 := cell_of_block hS 2
      have c3 := cell_of_block hS 3
      simp only [List.getElem?_toArray, List.getElem?_cons_zero, List.getElem?_cons_succ] at c1 c2 c3
      have hix0 := index_rw hF.nr n hF.le
      obtain ⟨an, capn, hnv, _, _, _⟩ := hF.nr.at
      subst hnv
      obtain ⟨nl, hnl⟩ : ∃ nl, (fr.ns.map (Value.int .i64)).length = nl := ⟨_, rfl⟩
      rw [hnl] at c1 hix0
      have HIX := hide hix0
      clear hix0
      obtain ⟨av, capv, hvv, hvl, hvm, hvn, hvc⟩ := hF.vr.at
      subst hvv
      have hxl : xs.length = fr.ns.length := by rw [hF.len]; exact hF.vs.length.symm
      have hle := hF.le
      cases hix : idxI fr.ns n with
      | some j =>
        have hj : j < xs.length := by rw [hxl]; exact idxI_lt hix
        obtain ⟨gv, off, c, rfl, _, _, hcell⟩ := hvc j hj
        have HIX2 : Hid (Calls Tryz.prog 177 #[.slice an nl capn, .int .i64 n] w fun e w' => e = .returned (.int .i64 (j : Int)) ∧ w' = w) := by
          have := HIX.out
          unfold idxN at this
          rw [hix] at this
          exact this
        have HP : Hid (FindPost w X ow mo mf s r (.returned (.pointer (some ⟨gv, off + j, none⟩))) w) := by
          have hr2 : r = some (i, j) := by rw [← hr, findS, hfr]; simp only [hix]
          subst hr2
          exact ⟨rfl, fr, ab, pn, _, gv, off, capv, op, xs, hfr, hm, hF, hj, rfl⟩
        have hj2 : (j : Int) < (xs.length : Int) := by omega
        have hxl2 : xs.length ≤ 1000000 := by omega
        clear hF hS hvl hvm hvn hvc hxl hle hr hfr HIX hix hnl HFR HO HS
        go_wp2_with fail
        refine HIX2.out.mono ?_
        rintro e w1 ⟨rfl, rfl⟩
        go_wp2
        go_ret
        exact HP.out
      | none =>
        have HIX2 : Hid (Calls Tryz.prog 177 #[.slice an nl capn, .int .i64 n] w fun e w' => e = .returned (.int .i64 (-1)) ∧ w' = w) := by
          have := HIX.out
          unfold idxN at this
          rw [hix] at this
          exact this
        have HP : Hid (FindRel mf s n r op ∧ findM ow (.pointer op) < findM ow (.pointer (some ⟨ab, 0, none⟩))) := by
          have ho := hF.out
          have ht := hF.tag
          rw [findS, hfr] at hr
          simp only [hix] at hr
          revert ho hr
          cases hfo : fr.out with
          | none =>
            intro ho hr
            have ho : op = none := ho
            subst ho
            refine ⟨hr.symm, ?_⟩
            show 0 < (ow ab).getD 0
            rw [ht]; simp
          | some k =>
            rintro ⟨h1, gk, h2, h3⟩ hr
            subst h3
            have hkl : k < s.frs.length := by omega
            obtain ⟨frk, hfrk⟩ : ∃ fr, s.frs[k]? = some fr := ⟨s.frs[k], by simp [hkl]⟩
            obtain ⟨g2, pn2, nv2, vv2, op2, xs2, hg2, hF2⟩ := HFR.out k frk hfrk
            rw [h2] at hg2
            cases hg2
            refine ⟨⟨k, hkl, h2, rfl, ?_⟩, ?_⟩
            · have hr : findS s.frs i k n = r := hr
              obtain ⟨i', rfl⟩ : ∃ i', i = i' + 1 := ⟨i - 1, by omega⟩
              rw [findS_fuel HO.out n k i' (by omega)] at hr
              exact hr
            · show (ow gk).getD 0 < (ow ab).getD 0
              rw [ht, hF2.tag]; simp; omega
        clear hF hS hvl hvm hvn hvc hxl hle hr hfr HIX hix hnl HFR HO HS
        go_wp2_with fail
        refine HIX2.out.mono ?_
        rintro e w1 ⟨rfl, rfl⟩
        go_wp2
        go_roundw
        case rel => exact ⟨_, rfl, trivial, HP.out.1⟩
        case measure => exact HP.out.2
end Go.Proofs.YtlobegpjenabaaaGreatDoor

/- append, upon a row that is a frame's own, or full. -/
namespace Go.Proofs.YtlobegpjenabaaaGreatDoor
open Go.RowKit
set_option linter.unusedSimpArgs false
set_option linter.unusedVariables false

theorem Rw.alloc {w : World} {T : TypeId} {own sh : Nat → Prop} {u : Value} {xs : List Value} (h : Rw w T own sh u xs) (o : Obj) : Rw (w.alloc o) T own sh u xs :=
  h.imp (fun g c hg hc => ⟨hg, by rw [Below.heap_alloc _ _ _ (lt_of_some hc)]; exact hc⟩) (fun g c hg hc => ⟨hg, by rw [Below.heap_alloc _ _ _ (lt_of_some hc)]; exact hc⟩)
theorem own_zero {w : World} {B T s n : Nat} {u : Value} {xs : List Value} (h : w.ownsRow B T s u n xs) : w.ownsRow 0 T s u n xs := by
  obtain ⟨h0, h | ⟨g, cap, cu, h1, h2, h3⟩⟩ := h
  · exact ⟨h0, .inl h⟩
  · exact ⟨h0, .inr ⟨g, cap, cu, h1, Nat.zero_le _, h3⟩⟩

theorem run_append_rw {P : Program} (w : World) (t ty : TypeId) (e : TypeId) (i : TypeInfo) (z : Value) (bytes : Nat) (ht : P.underlying t = some (.slice e)) (hi : P.info? e = some i) (hz : i.zero = some z)
    (hsize : i.size = 1) (hby : i.bytes = bytes) (hzs : z.cells.size = 1) {own sh : Nat → Prop} (u : Value) (xs : List Value) (h : Rw w e own sh u xs)
    (ad : Addr) (c : Nat) (y : Value) (hy : w.cell? ad = some y) (h1 : y.oneCell' = true) (h63 : xs.length + 1 ≤ maxLen) (hbytes : (xs.length + 1) * bytes ≤ 140737488355328) :
    ∃ g cap w', (Builtin.append_ #[t, t] ty #[u, .slice (some ad) 1 c]).run P w = .ok (.slice (some ⟨g, 0, none⟩) (xs.length + 1) cap) w' ∧
      w'.ownsRow 0 e 1 (.slice (some ⟨g, 0, none⟩) (xs.length + 1) cap) (xs.length + 1) (xs ++ [y]) ∧ Upd (fun k => own k ∧ u.ownBlock = some k) w w' ∧ (own g ∧ u.ownBlock = some g ∨ w.heap.size ≤ g) ∧ g < w'.heap.size := by
  have hnews : ∀ j v, ([y] : List Value)[j]? = some v → w.cell? (ad.add j) = some v := fun j v hj => by
    cases j with
    | zero => cases hj; simpa [Addr.add] using hy
    | succ j => simp at hj
  have h1' : ∀ v ∈ [y], v.oneCell' = true := fun v hv => by simp at hv; subst hv; exact h1
  rcases h with ⟨rfl, rfl⟩ | ⟨g0, off, cap0, cu, h2, h3, h3', h4, h5, h6⟩
  · obtain ⟨g, cap, w', r1, r2, r3, r4, r5⟩ := run_append_lies (P := P) w t ty 0 e i z 1 bytes ht hi hz hsize hby hzs (by decide) (.slice none 0 0) 0 [] (World.ownsRow_nil w _ e 1) ad 1 c [y] rfl hnews h1' (by decide) (by simpa using h63) (by simpa using hbytes) (Nat.zero_le _) _ rfl
    refine ⟨g, cap, w', by simpa using r1, by simpa using r2, (Upd.refl _ w).grown r3 (fun k hk => by cases hk), .inr ?_, r5⟩
    rcases r4 with r4 | r4
    · cases r4
    · omega
  · rcases h6 with ⟨ho, rfl, hc⟩ | ⟨hs, hc⟩
    · have hown : w.ownsRow 0 e 1 u xs.length xs := ⟨by simp, .inr ⟨g0, cap0, cu, h2, Nat.zero_le _, h4, h3, h3', by omega, by rw [Nat.mul_one]; rw [List.drop_zero] at h5; exact h5⟩⟩
      obtain ⟨g, cap, w', r1, r2, r3, r4, r5⟩ := run_append_lies (P := P) w t ty 0 e i z 1 bytes ht hi hz hsize hby hzs (by decide) u xs.length xs hown ad 1 c [y] rfl hnews h1' (by decide) h63 hbytes (Nat.zero_le _) _ rfl
      refine ⟨g, cap, w', r1, r2, (Upd.refl _ w).grown r3 (fun k hk _ => ⟨?_, hk⟩), ?_, r5⟩
      · rw [h2] at hk; cases hk; exact ho
      · rcases r4 with r4 | r4
        · exact .inl ⟨by rw [h2] at r4; cases r4; exact ho, r4⟩
        · exact .inr (by omega)
    · subst h2
      have holds : ∀ j v, xs[j]? = some v → w.cell? ((⟨g0, off, none⟩ : Addr).add j) = some v := fun j v hj => by
        have hlt : j < xs.length := (List.getElem?_eq_some_iff.1 hj).1
        rw [Addr.add_lit, cell_of_block h4, ← Array.getElem?_toList]
        rw [← h5, List.getElem?_take, if_pos hlt, List.getElem?_drop] at hj
        exact hj
      obtain ⟨v', w', r1, r2, r3⟩ := run_append_arg_grows (P := P) w t ty e i z 1 bytes ht hi hz hsize hby hzs (by decide) ⟨g0, off, none⟩ xs.length cap0 xs (by simp) holds ad 1 c [y] rfl hnews (by omega) h63 hbytes
      obtain ⟨g, cap, rfl, r4, r5⟩ := r2.form (by omega)
      exact ⟨g, cap, w', r1, own_zero r2, (Upd.refl _ w).grown r3 (fun k hk => by cases hk), .inr r4, r5⟩

theorem wpList_append_rw {P : Program} (w : World) {ops : Array Oper} {rest : List Oper} {o : Oper} {a : Act} {Q : Exit → Act → World → Prop} (hgd : o.guard = none) (s x : Operand) (t : TypeId)
    (ho : o.op = .call { callee := .builtin .append, args := #[s, x], argTypes := #[t, t] })
    (e : TypeId) (i : TypeInfo) (z : Value) (bytes : Nat) (ht : P.underlying t = some (.slice e)) (hi : P.info? e = some i) (hz : i.zero = some z)
    (hsize : i.size = 1) (hby : i.bytes = bytes) (hzs : z.cells.size = 1) {own sh : Nat → Prop} (u : Value) (xs : List Value) (hs : a.eval s = u) (h : Rw w e own sh u xs)
    (ad : Addr) (c : Nat) (y : Value) (hx : a.eval x = .slice (some ad) 1 c) (hy : w.cell? ad = some y) (h1 : y.oneCell' = true) (h63 : xs.length + 1 ≤ maxLen) (hbytes : (xs.length + 1) * bytes ≤ 140737488355328)
    (hK : ∀ g cap w', w'.ownsRow 0 e 1 (.slice (some ⟨g, 0, none⟩) (xs.length + 1) cap) (xs.length + 1) (xs ++ [y]) → Upd (fun k => own k ∧ u.ownBlock = some k) w w' → (own g ∧ u.ownBlock = some g ∨ w.heap.size ≤ g) → g < w'.heap.size → wpList P ops Q rest (a.put o.dst (.slice (some ⟨g, 0, none⟩) (xs.length + 1) cap)) w') :
    wpList P ops Q (o :: rest) a w := by
  refine wpList_plain hgd fun K hK' => ?_
  obtain ⟨g, cap, w', r1, r2, r3, r4, r5⟩ := run_append_rw (P := P) w t o.type e i z bytes ht hi hz hsize hby hzs u xs h ad c y hy h1 h63 hbytes
  unfold Oper.wp
  simp [execOp, ho, resolve, invoke, builtin, hs, hx, r1, Result.andThen]
  exact hK' _ _ (hK g cap w' r2 r3 r4 r5)
end Go.Proofs.YtlobegpjenabaaaGreatDoor

/- frame.define: a variable is given a value in a frame. -/
namespace Go.Proofs.YtlobegpjenabaaaGreatDoor
open Go.RowKit
set_option linter.unusedSimpArgs false
set_option linter.unusedVariables false

theorem infoInt' : (Tryz.prog.info? 3).map (fun i => (i.zero, i.size, i.bytes)) = some (some (.int .i64 0), 1, 8) := by kernel_rfl
/-- What define comes to: the frame's rows, in blocks of its own or new ones. -/
def DefPost' (w : World) (X : Nat → Prop) (ow : Nat → Option Nat) (i g : Nat) (fr : Fr) (pn : ByteArray) (op : Option Addr) (xs : List Value) (n : Int) (x : Value) (e : Ending) (w' : World) : Prop :=
  e = .returned (.tuple #[]) ∧ Upd (fun k => ow k = some (i + 1)) w w' ∧ ∃ nv vv xs', w'.heap[g]? = some (Obj.cells #[.string pn, nv, vv, .pointer op] 176 (0, 0)) ∧
    (match idxI fr.ns n with
      | some j => xs' = xs.set j x ∧ Rw w' 3 (fun k => ow k = some (i + 1)) (fun k => ¬ X k) nv (fr.ns.map (Value.int .i64)) ∧ Rw w' 81 (fun k => ow k = some (i + 1)) (fun k => ow k = some (i + 1)) vv xs'
      | none => xs' = xs ++ [x] ∧ (∃ gn gv, (ow gn = some (i + 1) ∨ w.heap.size ≤ gn) ∧ (ow gv = some (i + 1) ∨ w.heap.size ≤ gv) ∧ nv.ownBlock = some gn ∧ vv.ownBlock = some gv ∧ w'.ownsRow 0 3 1 nv (fr.ns.length + 1) ((fr.ns ++ [n]).map (Value.int .i64)) ∧ w'.ownsRow 0 81 1 vv (xs.length + 1) xs'))

theorem Rw.keep {w w' : World} {T : TypeId} {own sh : Nat → Prop} {u : Value} {xs : List Value} (h : Rw w T own sh u xs) (k : Keep T w w') : Rw w' T own sh u xs := h.imp (fun g c hg hc => ⟨hg, k g c hc⟩) (fun g c hg hc => ⟨hg, k g c hc⟩)
theorem Rw.keepOther {w w1 : World} {T T' : TypeId} {own sh : Nat → Prop} {u : Value} {xs : List Value} (h : Rw w T own sh u xs) (hu : Upd (fun k => own k ∧ u.ownBlock = some k) w w1) (hne : T' ≠ T) : Keep T' w w1 :=
  Keep.of_upd hu fun k c hk hc => by
    rcases h with ⟨rfl, _⟩ | ⟨g, off, cap, cu, rfl, _, _, h3, _⟩
    · cases hk.2
    · have : g = k := by have := hk.2; simp [Value.ownBlock] at this; exact this
      subst this
      rw [h3] at hc; cases hc; exact hne rfl
theorem keep_alloc (T : TypeId) (w : World) (o : Obj) : Keep T w (w.alloc o) := fun b c h => by rw [Below.heap_alloc _ _ _ (lt_of_some h)]; exact h

set_option maxRecDepth 100000 in
set_option maxHeartbeats 2000000 in
theorem define_go {w : World} {X : Nat → Prop} {ow mo mf : Nat → Option Nat} {i g : Nat} {fr : Fr} {pn : ByteArray} {nv vv : Value} {op : Option Addr} {xs : List Value} (h : FrR w X ow mo mf i fr g pn nv vv op xs) (hox : ∀ k t, ow k = some t → X k) (n : Int) (t : TypeId) (y : Value) (hle : fr.ns.length < 1000000) :
    Calls Tryz.prog 102 #[.pointer (some ⟨g, 0, none⟩), .int .i64 n, .iface t y] w (DefPost' w X ow i g fr pn op xs n (.iface t y)) := by
  have hS := h.hS
  have c1 := cell_of_block hS 1
  have c2 := cell_of_block hS 2
  have f1 := frozen_of_block hS 1
  have f2 := frozen_of_block hS 2
  simp only [List.getElem?_toArray, List.getElem?_cons_zero, List.getElem?_cons_succ] at c1 c2
  have hix0 := index_rw h.nr n h.le
  obtain ⟨an, capn, hnv, hn1, hn2, hn3, hn4⟩ := h.nr.at
  have HNR := hide h.nr
  have HVR := hide h.vr
  subst hnv
  obtain ⟨av, capv, hvv, hvl, hvm, hvn, hvc⟩ := h.vr.at
  subst hvv
  have hxl : xs.length = fr.ns.length := by rw [h.len]; exact h.vs.length.symm
  obtain ⟨nl, hnl⟩ : ∃ nl, (fr.ns.map (Value.int .i64)).length = nl := ⟨_, rfl⟩
  have hnl' : nl = fr.ns.length := by rw [← hnl, List.length_map]
  rw [hnl] at c1 hix0 hn1 hS
  have HNR' : Hid (Rw w 3 (fun k => ow k = some (i + 1)) (fun k => ¬ X k) (.slice an nl capn) (fr.ns.map (Value.int .i64))) := by rw [← hnl]; exact HNR.out
  have HT := hide h.tag
  have HXL := hide hxl
  have HNL := hide hnl'
  have HSS := hide hS
  have hgl := lt_of_some hS
  cases hix : idxI fr.ns n with
  | some j =>
    have hj : j < xs.length := by rw [hxl]; exact idxI_lt hix
    obtain ⟨gv, off, c, rfl, hgo, hgh, hcell⟩ := hvc j hj
    have hgo : ow gv = some (i + 1) := hgo.elim id id
    have fz := frozen_of_block hgh (off + j)
    have HIX2 : Hid (Calls Tryz.prog 177 #[.slice an nl capn, .int .i64 n] w fun e w' => e = .returned (.int .i64 (j : Int)) ∧ w' = w) := by
      have := hix0
      unfold idxN at this
      rw [hix] at this
      exact this
    have hgne : g ≠ gv := fun e => by subst e; rw [hS] at hgh; cases hgh
    have HP : Hid (DefPost' w X ow i g fr pn op xs n (.iface t y) (.returned (.tuple #[])) (w.setCell ⟨gv, off + j, none⟩ (.iface t y))) := by
      refine ⟨rfl, (Upd.refl _ w).setCell _ _ (fun _ => hgo), .slice an nl capn, .slice (some ⟨gv, off, none⟩) xs.length capv, xs.set j (.iface t y), by rw [heap_set_other HSS.out hgne], ?_⟩
      rw [hix]
      refine ⟨rfl, HNR'.out.imp (fun b cc hb hc => ⟨hb, ?_⟩) (fun b cc hb hc => ⟨hb, ?_⟩), HVR.out.put j _ hj⟩
      · rw [heap_set_other hc (fun e => by subst e; rw [hgh] at hc; cases hc)]
      · rw [heap_set_other hc (fun e => by subst e; exact hb (hox _ _ hgo))]
    have hj2 : (j : Int) < (xs.length : Int) := by omega
    have hxl2 : xs.length ≤ 1000000 := by omega
    clear h hS hn4 hvc hix0 HNR HVR HNR' HSS hox hgh hnl hnl' hix hxl
    go_enter Tryz.func102, Tryz.ntmps102
    go_wp2_with fail
    refine HIX2.out.mono ?_
    rintro e w1 ⟨rfl, rfl⟩
    go_wp2
    refine bodyPost_ret (results_none rfl _ _ _) rfl ?_
    exact HP.out
  | none =>
    have HIX2 : Hid (Calls Tryz.prog 177 #[.slice an nl capn, .int .i64 n] w fun e w' => e = .returned (.int .i64 (-1)) ∧ w' = w) := by
      have := hix0
      unfold idxN at this
      rw [hix] at this
      exact this
    obtain ⟨i1, hi1, hz0, hz1, hz2⟩ := info_parts infoInt'
    obtain ⟨i2, hi2, hy0, hy1, hy2⟩ := info_parts infoVal
    have HI := hide (And.intro hi1 (And.intro hz0 (And.intro hz1 (And.intro hz2 (And.intro hi2 (And.intro hy0 (And.intro hy1 hy2)))))))
    have HIX := hide hix
    have HOX := hide hox
    have hnl2 : nl + 1 ≤ 1000000 := by omega
    have hxl2 : xs.length + 1 ≤ 1000000 := by omega
    clear h hS hn4 hvc hix0 HNR hox hnl hnl' hxl hix hi1 hz0 hz1 hz2 hi2 hy0 hy1 hy2
    go_enter Tryz.func102, Tryz.ntmps102
    go_wp2_with fail
    refine HIX2.out.mono ?_
    rintro e w0 ⟨rfl, hw0⟩
    obtain rfl : w = w0 := hw0.symm
    go_wp2_with (at_builtin; go_loud (refine wpList_append_rw _ rfl (.tmp 26) (.tmp 28) 30 rfl 3 i1 (.int .i64 0) 8 Tryz.underlying30 HI.out.1 HI.out.2.1 HI.out.2.2.1 HI.out.2.2.2.1 rfl (.slice an nl capn) (fr.ns.map (Value.int .i64)) rfl (HNR'.out.alloc _) ⟨w.heap.size, 0, none⟩ 1 (.int .i64 n) rfl ((World.cell?_alloc_at _ _ _ _ (by simp)).trans rfl) rfl (by simp; unfold maxLen; omega) (by simp; omega) ?_))
    intro g1 cap1 w1 hown1 hu1 hg1 hlt1
    have kp1 : ∀ T', T' ≠ 3 → Keep T' w w1 := fun T' hT => (keep_alloc T' w _).trans ((HNR'.out.alloc _).keepOther hu1 hT)
    have hS1 := kp1 176 (by decide) _ _ HSS.out
    have HU1 := hide (show Upd (fun k => ow k = some (i + 1)) w w1 from ((Upd.refl _ w).alloc _).trans hu1 (fun j hj h => h.1))
    have HG1 := hide (show ow g1 = some (i + 1) ∨ w.heap.size ≤ g1 from hg1.imp (fun h => h.1) (fun h => by first | omega | (simp at h; omega)))
    have HO1 := hide hown1
    have HV1 := hide (HVR.out.keep (kp1 81 (by decide)))
    have HS1 := hide hS1
    have d1 := cell_of_block hS1 1
    have d2 := cell_of_block hS1 2
    simp only [List.getElem?_toArray, List.getElem?_cons_zero, List.getElem?_cons_succ] at d1 d2
    have e1 := frozen_of_block hS1 1
    have e2 := frozen_of_block hS1 2
    have hgl1 := lt_of_some hS1
    have hsz1 : w.heap.size ≤ w1.heap.size := HU1.out.size
    clear hown1 hu1 hg1 hlt1 kp1 hS1
    have kp2 : ∀ T' v, T' ≠ 176 → Keep T' w1 (w1.setCell ⟨g, 1, none⟩ v) := fun T' v hT => keep_set HS1.out hT
    have HV2 := hide (fun v => HV1.out.keep (kp2 81 v (by decide)))
    have HO2 := hide (fun v => ownsRow_keep (kp2 3 v (by decide)) HO1.out)
    clear kp2
    go_wp2_with (at_builtin; go_loud (refine wpList_append_rw _ rfl (.tmp 36) (.tmp 38) 76 rfl 81 i2 .nilIface 16 Tryz.underlying76 HI.out.2.2.2.2.1 HI.out.2.2.2.2.2.1 HI.out.2.2.2.2.2.2.1 HI.out.2.2.2.2.2.2.2 rfl (.slice av xs.length capv) xs rfl ((HV2.out _).alloc _) ⟨w1.heap.size, 0, none⟩ 1 (.iface t y) rfl ((World.cell?_alloc_at _ _ _ _ (by simp)).trans rfl) rfl (by unfold maxLen; omega) (by omega) ?_))
    intro g2 cap2 w2 hown2 hu2 hg2 hlt2
    have HU2 := hide (show Upd (fun k => ow k = some (i + 1)) w w2 from (((HU1.out.setCell ⟨g, 1, none⟩ (.slice (some ⟨g1, 0, none⟩) (fr.ns.length + 1) cap1) (fun _ => HT.out)).alloc _).trans hu2 (fun j hj h => h.1)))
    have hk2 : ∀ T', T' ≠ 81 → Keep T' (w1.setCell ⟨g, 1, none⟩ (.slice (some ⟨g1, 0, none⟩) (fr.ns.length + 1) cap1)) w2 := fun T' hT => (keep_alloc T' _ _).trans (((HV2.out _).alloc _).keepOther hu2 hT)
    have hS2 := hk2 176 (by decide) _ _ (heap_setCell_same HS1.out)
    have HN2 := hide (ownsRow_keep (hk2 3 (by decide)) (HO2.out _))
    have HG2 := hide (show ow g2 = some (i + 1) ∨ w.heap.size ≤ g2 from hg2.imp (fun h => h.1) (fun h => by first | omega | (simp at h; omega)))
    have m1 := cell_of_block hS2 1
    have m2 := cell_of_block hS2 2
    simp at m1 m2
    have n2 := frozen_of_block hS2 2
    have HF : Hid (DefPost' w X ow i g fr pn op xs n (.iface t y) (.returned (.tuple #[])) (w2.setCell ⟨g, 2, none⟩ (.slice (some ⟨g2, 0, none⟩) (xs.length + 1) cap2))) := by
      refine ⟨rfl, HU2.out.setCell _ _ (fun _ => HT.out), _, _, xs ++ [.iface t y], (heap_setCell_same hS2).trans rfl, ?_⟩
      rw [HIX.out]
      refine ⟨rfl, g1, g2, HG1.out, HG2.out, rfl, rfl, ?_, ?_⟩
      · rw [List.map_append]; exact ownsRow_keep (keep_set hS2 (by decide)) HN2.out
      · exact ownsRow_keep (keep_set hS2 (by decide)) hown2
    clear hown2 hu2 hg2 hlt2 hk2 hS2
    go_wp2
    refine bodyPost_ret (results_none rfl _ _ _) rfl ?_
    exact HF.out
end Go.Proofs.YtlobegpjenabaaaGreatDoor
