/- slices.Insert at the head of a row of expressions, of one expression. -/
import Derived.Test.YtlobegpjenabaaaGreatDoorImpCho
import Derived.Shelf.Spec.SlicesInsertGrow
namespace Go.Proofs.YtlobegpjenabaaaGreatDoor
open Go.RowKit
set_option linter.unusedSimpArgs false
set_option linter.unusedVariables false

theorem spl_aux (A Q : List Value) (v : Value) (k : Nat) : (A ++ v :: Q).take (A.length + 1) = A ++ [v] ∧ (A ++ v :: Q).drop (A.length + 1 + k) = Q.drop k := by
  constructor
  · rw [List.take_append, List.take_of_length_le (by omega), show A.length + 1 - A.length = 1 by omega]; rfl
  · rw [List.drop_append, List.drop_of_length_le (by omega), show A.length + 1 + k - A.length = k + 1 by omega]; rfl
theorem setCells_block (g : Nat) : ∀ (vs : List Value) (o : Nat) (w : World) (c : Array Value) (T : TypeId) (fz : Nat × Nat), w.heap[g]? = some (Obj.cells c T fz) → o + vs.length ≤ c.size →
    ∃ c', (w.setCells g o vs).heap[g]? = some (Obj.cells c' T fz) ∧ c'.size = c.size ∧ c'.toList = c.toList.take o ++ (vs ++ c.toList.drop (o + vs.length))
  | [], o, w, c, T, fz, h, hl => ⟨c, h, rfl, by simp⟩
  | v :: r, o, w, c, T, fz, h, hl => by
    have h1 := heap_setCell_same (o := o) (v := v) h
    obtain ⟨c', h2, h3, h4⟩ := setCells_block g r (o + 1) (w.setCell ⟨g, o, none⟩ v) _ T fz h1 (by simp at hl ⊢; omega)
    refine ⟨c', h2, by simpa using h3, ?_⟩
    have hs : (c.setIfInBounds o v).toList = c.toList.take o ++ v :: c.toList.drop (o + 1) := by
      rw [Array.toList_setIfInBounds, List.set_eq_take_append_cons_drop, if_pos (by simp at hl ⊢; omega)]
    have hlo : (c.toList.take o).length = o := by rw [List.length_take]; simp at hl ⊢; omega
    obtain ⟨q1, q2⟩ := spl_aux (c.toList.take o) (c.toList.drop (o + 1)) v r.length
    rw [hlo] at q1 q2
    rw [h4, hs, q1, q2, List.drop_drop, List.length_cons, show o + 1 + r.length = o + (r.length + 1) by omega]
    simp only [List.append_assoc, List.cons_append, List.nil_append]

theorem setCells_other (g : Nat) {i : Nat} (hne : i ≠ g) : ∀ (vs : List Value) (o : Nat) (w : World), (w.setCells g o vs).heap[i]? = w.heap[i]?
  | [], _, _ => rfl
  | v :: r, o, w => by rw [World.setCells, setCells_other g hne r, Below.heap_setCell _ _ _ _ hne]
theorem Upd.setCells {S : Nat → Prop} {w : World} (g : Nat) (hS : S g) : ∀ (vs : List Value) (o : Nat) (w1 : World), Upd S w w1 → Upd S w (w1.setCells g o vs)
  | [], _, _, h => h
  | v :: r, o, w1, h => Upd.setCells g hS r (o + 1) _ (h.setCell ⟨g, o, none⟩ v (fun _ => hS))

/-- What it comes to. -/
def InsPost (w : World) (B : Nat) (u : Value) (es : List Value) (p : Value) (e : Ending) (w' : World) : Prop :=
  ∃ g cap, e = .returned (.slice (some ⟨g, 0, none⟩) (es.length + 1) cap) ∧ w'.ownsRow B 83 1 (.slice (some ⟨g, 0, none⟩) (es.length + 1) cap) (es.length + 1) (p :: es) ∧ Upd (fun k => u.ownBlock = some k) w w' ∧ (u.ownBlock = some g ∨ w.heap.size ≤ g)

theorem cellAt_zero {w : World} {vb : Nat} {p : Value} {T : TypeId} (hv : w.heap[vb]? = some (Obj.cells #[p] T (0, 0))) : ∀ (j : Nat) u, [p][j]? = some u → w.cell? ((⟨vb, 0, none⟩ : Addr).add j) = some u := fun j u h => World.news_of_block hv j u h

set_option maxHeartbeats 2000000 in
theorem insert_nil (w : World) (B : Nat) (a : Option Addr) (cap vb : Nat) (t : TypeId) (x : Value) (T : TypeId) (hr : w.ownsRow B 83 1 (.slice a 0 cap) 0 []) (hB : B ≤ w.heap.size) (hv : w.heap[vb]? = some (Obj.cells #[.iface t x] T (0, 0))) (hcap : cap ≤ maxLen) :
    Calls Tryz.prog 150 #[.slice a 0 cap, .int .i64 0, .slice (some ⟨vb, 0, none⟩) 1 1] w (InsPost w B (.slice a 0 cap) [] (.iface t x)) := by
  obtain ⟨i0, hi, hz0, hz1, hz2⟩ := info_parts infoE
  have HI := hide (And.intro hi (And.intro hz0 (And.intro hz1 hz2)))
  have HV := hide hv
  have HR := hide hr
  unfold maxLen at hcap
  clear hi hz0 hz1 hz2 hv hr
  go_enter Tryz.func150, Tryz.ntmps150
  go_wp2_with (at_builtin; refine wpList_append_lies _ rfl (.tmp 23) (.tmp 24) 79 rfl B 83 i0 .nilIface 1 16 Tryz.underlying79 HI.out.1 HI.out.2.1 HI.out.2.2.1 HI.out.2.2.2 rfl (by decide) _ 0 [] rfl HR.out ⟨vb, 0, none⟩ 1 1 [.iface t x] rfl rfl (cellAt_zero HV.out) (by intro u hu; simp at hu; subst hu; rfl) (by decide) (by decide) (by omega) hB w.heap.size rfl ?_)
  all_goals
    intro g4 cap4 w4 hown4 hgrow hat4 hlt4
    have HU := hide (Upd.grown (Upd.refl (fun k => (Value.slice a 0 cap).ownBlock = some k) w) hgrow (fun k hk _ => hk))
    have HO := hide hown4
    have HA := hide hat4
    clear hown4 hgrow hat4
    go_wp2
    go_ret
    exact ⟨g4, cap4, rfl, HO.out, HU.out, HA.out.imp id (fun h => Nat.le_of_eq h.symm)⟩

set_option maxRecDepth 100000 in
set_option maxHeartbeats 4000000 in
theorem insert_room (w : World) (B g cap vb : Nat) (es : List Value) (cur : Array Value) (t : TypeId) (x : Value) (T : TypeId) (hn : 0 < es.length) (hg : w.heap[g]? = some (Obj.cells cur 83 (0, 0))) (hB : B ≤ g) (hroom : es.length + 1 ≤ cap) (hcap : cap ≤ maxLen) (hcs : cur.size = cap) (hes : cur.toList.take es.length = es)
    (hv : w.heap[vb]? = some (Obj.cells #[.iface t x] T (0, 0))) (hne : vb ≠ g) (h1 : ∀ v ∈ es, v.oneCell' = true) :
    Calls Tryz.prog 150 #[.slice (some ⟨g, 0, none⟩) es.length cap, .int .i64 0, .slice (some ⟨vb, 0, none⟩) 1 1] w (InsPost w B (.slice (some ⟨g, 0, none⟩) es.length cap) es (.iface t x)) := by
  unfold maxLen at hcap
  have hcell : ∀ (j : Nat) v, es[j]? = some v → w.cell? ⟨g, j, none⟩ = some v := fun j v hj => by
    rw [cell_of_row w g j cur _ _ hg]
    rw [← hes, List.getElem?_take] at hj
    split at hj
    · simpa using hj
    · cases hj
  have hsp : ∀ j, j < cap → (w.cell? ⟨g, j, none⟩).isSome = true := fun j hj => by
    rw [cell_of_row w g j cur _ _ hg, Array.getElem?_eq_getElem (by omega)]; rfl
  have hfz : ∀ j, w.frozen? ⟨g, j, none⟩ = false := fun j => frozen_of_row w g j cur _ hg
  have hsz : (Tryz.prog.info? 83).map (·.size) = some 1 := by
    obtain ⟨i0, hi, hz0, hz1, hz2⟩ := info_parts infoE
    rw [hi]; simp [hz1]
  have hov : ∀ lb cb, (callFunc 209 #[.slice (some ⟨vb, 0, none⟩) 1 1, .slice (some ⟨g, 1, none⟩) lb cb]).run Tryz.prog w = .ok (.value (.bool false)) w := fun lb cb => by
    rw [run_callFunc_extern Tryz.func209 (by kernel_rfl) (by kernel_rfl) (by kernel_rfl) (e := Extern.SlicesOverlaps.overlaps #[79, 79] #[4]) (by kernel_rfl),
      Lib.run_overlaps_apart w 79 4 83 Tryz.underlying79 1 (fun _ => by kernel_rfl) ⟨vb, 0, none⟩ ⟨g, 1, none⟩ 1 1 lb cb hne T 83 1 cap (by simp [World.shape?, hv]) (by simp [World.shape?, hg, hcs]) (by omega) (frozen_of_row w vb 0 _ _ hv) (frozen_of_row w vb 1 _ _ hv)]
    rfl
  have hcp1 : ∀ ty dc sc, (Builtin.copy_ #[79, 79] ty #[.slice (some ⟨g, 1, none⟩) es.length dc, .slice (some ⟨g, 0, none⟩) (es.length + 1) sc]).run Tryz.prog w.drew = .ok (goInt es.length) (w.drew.setCells g 1 es) := fun ty dc sc =>
    run_copy_cells w.drew _ _ ty 83 g 1 es.length dc ⟨g, 0, none⟩ (es.length + 1) sc es Tryz.underlying79 hsz (by simp only [Nat.min_def]; split <;> omega)
      (fun j v hj => by rw [Addr.add_lit, Nat.zero_add]; exact hcell j v hj)
      (fun j hj => hsp _ (by omega)) (fun j hj => hfz _) h1
  obtain ⟨c1, hk1, hk2, hk3⟩ := setCells_block g es 1 w.drew cur _ _ hg (by omega)
  obtain ⟨W1, hW1⟩ : ∃ W1, W1 = w.drew.setCells g 1 es := ⟨_, rfl⟩
  rw [← hW1] at hcp1 hk1
  have hvW : W1.heap[vb]? = some (Obj.cells #[.iface t x] T (0, 0)) := by rw [hW1, setCells_other g hne es 1 w.drew]; exact hv
  have hcp2 : ∀ (W : World), (∀ a, W.cell? a = W1.cell? a) → (∀ a, W.frozen? a = W1.frozen? a) → ∀ ty dc, (Builtin.copy_ #[79, 79] ty #[.slice (some ⟨g, 0, none⟩) (es.length + 1) dc, .slice (some ⟨vb, 0, none⟩) 1 1]).run Tryz.prog W = .ok (goInt [Value.iface t x].length) (W.setCells g 0 [.iface t x]) := fun W hWc hWf ty dc =>
    run_copy_cells W _ _ ty 83 g 0 (es.length + 1) dc ⟨vb, 0, none⟩ 1 1 [.iface t x] Tryz.underlying79 hsz (by simp only [Nat.min_def]; split <;> simp <;> omega)
      (fun j v hj => by rw [hWc]; exact cellAt_zero hvW j v hj)
      (fun j hj => by rw [hWc, cell_of_row W1 g _ c1 _ _ hk1, Array.getElem?_eq_getElem (by simp at hj; omega)]; rfl) (fun j hj => by rw [hWf]; exact frozen_of_row W1 g _ c1 _ hk1) (by intro u hu; simp at hu; subst hu; rfl)
  obtain ⟨c2, hm1, hm2, hm3⟩ := setCells_block g [.iface t x] 0 W1 c1 _ _ hk1 (by simp; omega)
  have HO := hide (show (W1.setCells g 0 [.iface t x]).ownsRow B 83 1 (.slice (some ⟨g, 0, none⟩) (es.length + 1) cap) (es.length + 1) (.iface t x :: es) from by
    refine ⟨by simp, Or.inr ⟨g, cap, c2, rfl, hB, hm1, hroom, by unfold maxLen; omega, by omega, ?_⟩⟩
    rw [hm3, hk3]
    obtain ⟨y, hy⟩ : ∃ y, cur.toList.take 1 = [y] := by
      cases h : cur.toList with
      | nil => have : cur.size = 0 := by rw [← Array.length_toList, h]; rfl
               omega
      | cons y r => exact ⟨y, by simp⟩
    rw [hy]
    simp)
  have HU := hide (show Upd (fun k => (Value.slice (some ⟨g, 0, none⟩) es.length cap).ownBlock = some k) w (W1.setCells g 0 [.iface t x]) from by
    rw [hW1]
    exact Upd.setCells (S := fun k => (Value.slice (some ⟨g, 0, none⟩) es.length cap).ownBlock = some k) g rfl _ _ _ (Upd.setCells (S := fun k => (Value.slice (some ⟨g, 0, none⟩) es.length cap).ownBlock = some k) g rfl _ _ _ (Upd.drew (Upd.refl _ _))))
  have b1 : ¬ ((0 : Int) = (es.length : Int)) := by omega
  have b2 : ¬ (cap = 1) := by omega
  have b3 : ¬ (cap = 0) := by omega
  have b4 : (1 : Int) ≤ (es.length : Int) + 1 := by omega
  have b5 : (0 : Int) ≤ (es.length : Int) + 1 := by omega
  have hw1 : IntKind.i64.wrap 1 = 1 := by decide
  have mixed : Tryz.prog.follows Departure.mixedOrders = true := by kernel_rfl
  have HOV := hide hov
  have HC1 := hide hcp1
  have HC2 := hide hcp2
  have HW1 := hide hW1
  clear hcell hsp hfz hcp1 hcp2 hW1 hvW hm1 hm2 hm3 hk1 hk2 hk3 hes h1 hov hg hv hcs hne hB
  go_enter Tryz.func150, Tryz.ntmps150
  go_wp2_with (simp only [HOV.out])
  go_region_law_o (refine step_copy_runI rfl _ _ 79 79 rfl (.slice (some ⟨g, 1, none⟩) es.length (cap - 1)) (.slice (some ⟨g, 0, none⟩) (es.length + 1) cap) (by simp [Act.eval, Act.put]) (by simp [Act.eval, Act.put]) (HC1.out _ _ _) ?_)
  have hc2 := HC2.out W1 (fun _ => rfl) (fun _ => rfl) 3 cap
  go_wp2
  go_ret
  exact ⟨g, cap, rfl, HO.out, HU.out, Or.inl rfl⟩

set_option maxRecDepth 100000 in
set_option maxHeartbeats 4000000 in
theorem insert_grow (w : World) (B g vb : Nat) (es : List Value) (cur : Array Value) (t : TypeId) (x : Value) (T : TypeId) (hn : 0 < es.length) (hl : es.length ≤ 1000) (hg : w.heap[g]? = some (Obj.cells cur 83 (0, 0))) (hB : B ≤ w.heap.size) (hcs : cur.size = es.length) (hes : cur.toList.take es.length = es)
    (hv : w.heap[vb]? = some (Obj.cells #[.iface t x] T (0, 0))) (h1 : ∀ v ∈ es, v.oneCell' = true) :
    Calls Tryz.prog 150 #[.slice (some ⟨g, 0, none⟩) es.length es.length, .int .i64 0, .slice (some ⟨vb, 0, none⟩) 1 1] w (InsPost w B (.slice (some ⟨g, 0, none⟩) es.length es.length) es (.iface t x)) := by
  have hgl := lt_of_some hg
  have hvl := lt_of_some hv
  have hcell : ∀ (j : Nat) v, es[j]? = some v → w.cell? ⟨g, j, none⟩ = some v := fun j v hj => by
    rw [cell_of_row w g j cur _ _ hg]
    rw [← hes, List.getElem?_take] at hj
    split at hj
    · simpa using hj
    · cases hj
  obtain ⟨i0, hi0, hz0, hzs, hzb⟩ := info_parts infoE
  have hsz : (Tryz.prog.info? 83).map (·.size) = some 1 := by rw [hi0]; simp [hzs]
  have hfirst : (Builtin.firstCells i0.size 0 (.slice (some ⟨g, 0, none⟩) 0 es.length)).run Tryz.prog w.drew = .ok ([] : List Value).toArray w.drew := by
    rw [hzs]
    exact run_firstCells_some w.drew 1 0 ⟨g, 0, none⟩ 0 es.length [] (by simp) (fun j v hj => by cases hj)
  obtain ⟨G, hG⟩ : ∃ G, G = grownCap w (0 + (es.length + 1)) es.length 83 := ⟨_, rfl⟩
  have hGn : 0 + (es.length + 1) ≤ G := by rw [hG]; exact grownCap_ge w _ _ _
  have hG63 : G ≤ maxLen := by rw [hG]; exact grownCap_le_maxLen w _ _ _ (by unfold maxLen; omega)
  have hrz := fun ty => Lib.run_append_grow_zeros w 79 3 ty 83 i0 .nilIface .i64 .i64 Tryz.underlying79 Tryz.underlying3 hi0 hz0 (some ⟨g, 0, none⟩) 0 es.length [] hfirst (es.length + 1) (by omega) (by omega) (by omega) (by omega) (by rw [hzb]; omega) (by rw [hzb]; exact growslice_fits (by omega) (by omega))
  rw [← hG] at hrz
  rw [Nat.zero_add] at hrz hGn
  obtain ⟨ROW, hROW⟩ : ∃ ROW : Array Value, ROW = ([] : List Value).toArray ++ Builtin.zeroCells Value.nilIface.cells (es.length + 1) ++ Builtin.zeroCells Value.nilIface.cells (G - (es.length + 1)) := ⟨_, rfl⟩
  rw [← hROW] at hrz
  have hRl : ROW.size = G := by
    rw [hROW]
    simp [Builtin.zeroCells, Value.cells]
    omega
  clear hROW hG
  obtain ⟨W0, hW0⟩ : ∃ W0, W0 = w.drew.alloc (.cells ROW 83) := ⟨_, rfl⟩
  rw [← hW0] at hrz
  have hH : W0.heap[w.heap.size]? = some (Obj.cells ROW 83 (0, 0)) := by rw [hW0]; exact Array.getElem?_push_size
  have hgW : W0.heap[g]? = some (Obj.cells cur 83 (0, 0)) := by rw [hW0, Below.heap_alloc w.drew _ g hgl]; exact hg
  have hvW : W0.heap[vb]? = some (Obj.cells #[.iface t x] T (0, 0)) := by rw [hW0, Below.heap_alloc w.drew _ vb hvl]; exact hv
  obtain ⟨H, hHe⟩ : ∃ H, H = w.heap.size := ⟨_, rfl⟩
  rw [← hHe] at hrz hH hB hgl hvl
  have hrz : ∀ ty, (Builtin.append_ #[79, 3] ty #[.slice (some ⟨g, 0, none⟩) 0 es.length, .int .i64 ((es.length : Int) + 1)]).run Tryz.prog w = .ok (.slice (some ⟨H, 0, none⟩) (es.length + 1) G) W0 := fun ty => by
    have h := hrz ty
    rw [Int.natCast_add] at h
    exact h
  obtain ⟨c1, hk1, hk2, hk3⟩ := setCells_block H [.iface t x] 0 W0 ROW _ _ hH (by simp; omega)
  have hcpA : ∀ ty, (Builtin.copy_ #[79, 79] ty #[.slice (some ⟨H, 0, none⟩) (es.length + 1) G, .slice (some ⟨vb, 0, none⟩) 1 1]).run Tryz.prog W0 = .ok (goInt [Value.iface t x].length) (W0.setCells H 0 [.iface t x]) := fun ty =>
    run_copy_cells W0 _ _ ty 83 H 0 (es.length + 1) G ⟨vb, 0, none⟩ 1 1 [.iface t x] Tryz.underlying79 hsz (by simp only [Nat.min_def]; split <;> simp <;> omega)
      (fun j v hj => cellAt_zero hvW j v hj)
      (fun j hj => by rw [cell_of_row W0 H _ ROW _ _ hH, Array.getElem?_eq_getElem (by simp at hj; omega)]; rfl) (fun j hj => frozen_of_row W0 H _ ROW _ hH) (by intro u hu; simp at hu; subst hu; rfl)
  obtain ⟨W1, hW1⟩ : ∃ W1, W1 = W0.setCells H 0 [.iface t x] := ⟨_, rfl⟩
  rw [← hW1] at hcpA hk1
  have hgW1 : W1.heap[g]? = some (Obj.cells cur 83 (0, 0)) := by rw [hW1, setCells_other H (by omega) _ 0 W0]; exact hgW
  have hcell1 : ∀ (j : Nat) v, es[j]? = some v → W1.cell? ⟨g, j, none⟩ = some v := fun j v hj => by
    rw [World.cell?_of_block (w := w) (a := ⟨g, j, none⟩) (by show W1.heap[g]? = w.heap[g]?; rw [hgW1, hg])]; exact hcell j v hj
  have hcpB : ∀ ty, (Builtin.copy_ #[79, 79] ty #[.slice (some ⟨H, 1, none⟩) es.length (G - 1), .slice (some ⟨g, 0, none⟩) es.length es.length]).run Tryz.prog W1.drew = .ok (goInt es.length) (W1.drew.setCells H 1 es) := fun ty =>
    run_copy_cells W1.drew _ _ ty 83 H 1 es.length (G - 1) ⟨g, 0, none⟩ es.length es.length es Tryz.underlying79 hsz (by simp only [Nat.min_def]; split <;> omega)
      (fun j v hj => by rw [Addr.add_lit, Nat.zero_add]; exact hcell1 j v hj)
      (fun j hj => by show (W1.cell? _).isSome = true; rw [cell_of_row W1 H _ c1 _ _ hk1, Array.getElem?_eq_getElem (by omega)]; rfl) (fun j hj => frozen_of_row W1 H _ c1 _ hk1) h1
  obtain ⟨c2, hm1, hm2, hm3⟩ := setCells_block H es 1 W1.drew c1 _ _ hk1 (by omega)
  obtain ⟨W2, hW2⟩ : ∃ W2, W2 = W1.drew.setCells H 1 es := ⟨_, rfl⟩
  rw [← hW2] at hcpB hm1
  have HO := hide (show W2.ownsRow B 83 1 (.slice (some ⟨H, 0, none⟩) (es.length + 1) G) (es.length + 1) (.iface t x :: es) from by
    refine ⟨by simp, Or.inr ⟨H, G, c2, rfl, hB, hm1, hGn, hG63, by omega, ?_⟩⟩
    rw [hm3, hk3]
    simp)
  have HU := hide (show Upd (fun k => (Value.slice (some ⟨g, 0, none⟩) es.length es.length).ownBlock = some k) w W2 from by
    have hnb : ∀ (W : World) (vs : List Value) (o : Nat), Upd (fun k => (Value.slice (some ⟨g, 0, none⟩) es.length es.length).ownBlock = some k) w W → Upd (fun k => (Value.slice (some ⟨g, 0, none⟩) es.length es.length).ownBlock = some k) w (W.setCells H o vs) := by
      intro W vs
      induction vs generalizing W with
      | nil => intro o h; exact h
      | cons v r ih => intro o h; exact ih _ _ (h.setCell ⟨H, o, none⟩ v (fun hlt => absurd hlt (by rw [hHe]; exact Nat.lt_irrefl _)))
    rw [hW2, hW1, hW0]
    exact hnb _ _ _ (Upd.drew (hnb _ _ _ ((Upd.drew (Upd.refl _ _)).alloc _))))
  unfold maxLen at hG63
  have b1 : ¬ ((0 : Int) = (es.length : Int)) := by omega
  have b2 : ¬ (G = 1) := by omega
  have b3 : ¬ (G = 0) := by omega
  have b6 : ¬ (es.length = 0) := by omega
  have b4 : (1 : Int) ≤ (es.length : Int) + 1 := by omega
  have b5 : (0 : Int) ≤ (es.length : Int) + 1 := by omega
  have b7 : (es.length : Int) < (es.length : Int) + 1 := by omega
  have hw1 : IntKind.i64.wrap 1 = 1 := by decide
  have mixed : Tryz.prog.follows Departure.mixedOrders = true := by kernel_rfl
  have HRZ := hide hrz
  have HCA := hide hcpA
  have HCB := hide hcpB
  have HHE := hide hHe
  clear hcell hcell1 hcpA hcpB hW0 hW1 hW2 hvW hgW hgW1 hm1 hm2 hm3 hk1 hk2 hk3 hes h1 hg hv hcs hB hrz hfirst hHe hH hRl hi0 hz0 hzs hzb hsz
  have hca := HCA.out 3
  go_enter Tryz.func150, Tryz.ntmps150
  go_wp2_with (at_builtin; refine Lib.wpList_append_run _ rfl _ _ _ _ rfl _ _ rfl rfl _ _ (HRZ.out _) ?_)
  go_region_law_o (refine step_copy_runI rfl _ _ 79 79 rfl (.slice (some ⟨H, 1, none⟩) es.length (G - 1)) (.slice (some ⟨g, 0, none⟩) es.length es.length) (by simp [Act.eval, Act.put]) (by simp [Act.eval, Act.put]) (HCB.out _) ?_)
  go_wp2
  go_ret
  exact ⟨H, G, rfl, HO.out, HU.out, Or.inr (Nat.le_of_eq HHE.out.symm)⟩

theorem insert_any (w : World) (B vb : Nat) (u : Value) (es : List Value) (t : TypeId) (x : Value) (T : TypeId) (hr : w.ownsRow B 83 1 u es.length es) (hB : B ≤ w.heap.size) (hl : es.length ≤ 1000) (hv : w.heap[vb]? = some (Obj.cells #[.iface t x] T (0, 0))) (hne : ¬ u.ownBlock = some vb) (h1 : ∀ v ∈ es, v.oneCell' = true) :
    Calls Tryz.prog 150 #[u, .int .i64 0, .slice (some ⟨vb, 0, none⟩) 1 1] w (InsPost w B u es (.iface t x)) := by
  have hr0 := hr
  obtain ⟨hl1, hr⟩ := hr
  rcases Nat.eq_zero_or_pos es.length with h0 | hp
  · have he : es = [] := List.length_eq_zero_iff.1 h0
    subst he
    rcases hr with ⟨rfl, _⟩ | ⟨g, cap, cur, rfl, hBg, hg, hc1, hc2, hc3, hc4⟩
    · exact insert_nil w B none 0 vb t x T hr0 hB hv (by unfold maxLen; omega)
    · exact insert_nil w B _ cap vb t x T hr0 hB hv hc2
  · rcases hr with ⟨rfl, hz⟩ | ⟨g, cap, cur, rfl, hBg, hg, hc1, hc2, hc3, hc4⟩
    · omega
    · rw [Nat.mul_one] at hc3 hc4
      by_cases hcap : cap = es.length
      · subst hcap
        exact insert_grow w B g vb es cur t x T hp hl hg hB hc3 hc4 hv h1
      · exact insert_room w B g cap vb es cur t x T hp hg hBg (by omega) hc2 hc3 hc4 hv (fun h => hne (by rw [h]; rfl)) h1
end Go.Proofs.YtlobegpjenabaaaGreatDoor
