/- latheref: wrong, List, Items. -/
import Derived.Test.YtlobegpjenabaaaGreatDoorRefData
import Derived.Deep.RegionHeld3
namespace Go.Proofs.YtlobegpjenabaaaGreatDoor
open Go.RowKit
set_option linter.unusedSimpArgs false
set_option linter.unusedVariables false

/-- A cursor in memory. -/
def cur (s : ByteArray) (i e a : Int) : Obj := .cells #[.string s, .int .i64 i, .int .i64 e, .int .i64 a] 154 (0, 0)

theorem cell_of_block {w : World} {b : Nat} {c : Array Value} {T : TypeId} {fz : Nat × Nat} (h : w.heap[b]? = some (Obj.cells c T fz)) (o : Nat) : w.cell? ⟨b, o, none⟩ = c[o]? := by simp [World.cell?, h]
theorem frozen_of_block {w : World} {b : Nat} {c : Array Value} {T : TypeId} (h : w.heap[b]? = some (Obj.cells c T (0, 0))) (o : Nat) : w.frozen? ⟨b, o, none⟩ = false := by simp [World.frozen?, h]
theorem heap_setCell_same {w : World} {b o : Nat} {c : Array Value} {T : TypeId} {fz : Nat × Nat} {v : Value} (h : w.heap[b]? = some (Obj.cells c T fz)) : (w.setCell ⟨b, o, none⟩ v).heap[b]? = some (Obj.cells (c.setIfInBounds o v) T fz) := by
  simp only [World.setCell, Array.getElem?_modify]
  simp [h]
theorem heap_alloc_lt {w : World} {o : Obj} {b : Nat} {x : Obj} (h : w.heap[b]? = some x) : (w.alloc o).heap[b]? = some x := by
  rw [Below.heap_alloc _ _ _ (lt_of_some h)]; exact h

set_option maxHeartbeats 400000 in
theorem wrong_any (s : ByteArray) (i e0 a0 e a : Int) (C : Nat) (w : World) (hC : w.heap[C]? = some (cur s i e0 a0)) :
    Calls Tryz.prog 104 #[.pointer (some ⟨C, 0, none⟩), .int .i64 e, .int .i64 a] w fun r w' =>
      r = .returned (.agg (rcells 0 0 emptyB none)) ∧ w'.heap[C]? = some (cur s i e a) ∧ Upd (fun k => k = C) w w' := by
  have c2 := cell_of_block hC 2
  have c3 := cell_of_block hC 3
  have f2 := frozen_of_block hC 2
  have f3 := frozen_of_block hC 3
  simp at c2 c3
  have hl := lt_of_some hC
  have HC := hide hC
  clear hC
  go_enter Tryz.func104, Tryz.ntmps104
  go_wp2
  refine bodyPost_ret (v := .agg #[.int .i64 0, .int .i64 0, .string emptyB, .pointer none, .pointer none]) (by simp [results, Tryz.results104, go_sem, emptyB]) rfl ⟨rfl, ?_, ?_⟩
  · refine heap_alloc_lt ?_
    exact heap_setCell_same (heap_setCell_same HC.out)
  · exact Upd.alloc (Upd.setCell (Upd.setCell (Upd.refl (fun k => k = C) w) ⟨C, 2, none⟩ _ (fun _ => rfl)) ⟨C, 3, none⟩ _ (fun _ => rfl)) _

/-- A row of values in memory, with its cells. -/
def Row5 (B : Nat) (w : World) (v : Value) (css : List (Array Value)) : Prop := w.ownsRow B 96 5 v css.length (flat css)

theorem ownsRow_cell {w : World} {base e size n : Nat} {v : Value} {xs : List Value} (h : w.ownsRow base e size v n xs) (hn : 0 < n) : ∃ g cap, v = .slice (some ⟨g, 0, none⟩) n cap ∧ base ≤ g ∧ g < w.heap.size ∧ n ≤ cap ∧ cap ≤ maxLen ∧ ∀ (j : Nat) u, xs[j]? = some u → w.cell? ⟨g, j, none⟩ = some u := by
  obtain ⟨hx, h⟩ := h
  rcases h with ⟨_, h0⟩ | ⟨g, cap, cu, hv, hb, hg, h1, h2, h3, h4⟩
  · omega
  · refine ⟨g, cap, hv, hb, lt_of_some hg, h1, h2, fun j u hj => ?_⟩
    rw [cell_of_block hg]
    rw [← h4] at hj
    rw [List.getElem?_take] at hj
    split at hj
    · simpa using hj
    · cases hj

theorem ownsRow_slice {w : World} {base e size n : Nat} {v : Value} {xs : List Value} (h : w.ownsRow base e size v n xs) : ∃ a cap, v = .slice a n cap ∧ n ≤ cap ∧ cap ≤ maxLen ∧ (0 < n → ∃ g, a = some ⟨g, 0, none⟩ ∧ base ≤ g ∧ g < w.heap.size ∧ ∀ (j : Nat) u, xs[j]? = some u → w.cell? ⟨g, j, none⟩ = some u) := by
  rcases Nat.eq_zero_or_pos n with h0 | hp
  · subst h0
    rcases h.2 with ⟨hv, _⟩ | ⟨g, cap, cu, hv, hb, hg, h1, h2, h3, h4⟩
    · exact ⟨none, 0, hv, Nat.le_refl _, Nat.zero_le _, fun h => absurd h (by omega)⟩
    · exact ⟨_, cap, hv, h1, h2, fun h => absurd h (by omega)⟩
  · obtain ⟨g, cap, hv, hb, hg, h1, h2, h3⟩ := ownsRow_cell h hp
    exact ⟨_, cap, hv, h1, h2, fun _ => ⟨g, rfl, hb, hg, h3⟩⟩

theorem Chain.form {w : World} {R : Array Value → D → Prop} : ∀ {l : List D} {cs : Array Value}, Chain w R cs l → ∃ k m s p, cs = rcells k m s p
  | [], cs, h => ⟨_, _, _, _, h⟩
  | _ :: _, cs, h => by obtain ⟨b, c1, c2, e, _⟩ := h; exact ⟨_, _, _, _, e⟩

/-- Five cells written, one by one. -/
def set5 (w : World) (B : Nat) (v0 v1 v2 v3 v4 : Value) : World := ((((w.setCell ⟨B, 0, none⟩ v0).setCell ⟨B, 1, none⟩ v1).setCell ⟨B, 2, none⟩ v2).setCell ⟨B, 3, none⟩ v3).setCell ⟨B, 4, none⟩ v4
theorem set5_same {w : World} {B : Nat} {a0 a1 a2 a3 a4 : Value} {T : TypeId} {fz : Nat × Nat} (v0 v1 v2 v3 v4 : Value) (h : w.heap[B]? = some (Obj.cells #[a0, a1, a2, a3, a4] T fz)) :
    (set5 w B v0 v1 v2 v3 v4).heap[B]? = some (Obj.cells #[v0, v1, v2, v3, v4] T fz) := by
  have := heap_setCell_same (o := 4) (v := v4) (heap_setCell_same (o := 3) (v := v3) (heap_setCell_same (o := 2) (v := v2) (heap_setCell_same (o := 1) (v := v1) (heap_setCell_same (o := 0) (v := v0) h))))
  unfold set5; simpa using this
theorem set5_upd (w : World) (B : Nat) (v0 v1 v2 v3 v4 : Value) : Upd (fun k => k = B) w (set5 w B v0 v1 v2 v3 v4) :=
  Upd.setCell (Upd.setCell (Upd.setCell (Upd.setCell (Upd.setCell (Upd.refl (fun k => k = B) w) ⟨B, 0, none⟩ v0 (fun _ => rfl)) ⟨B, 1, none⟩ v1 (fun _ => rfl)) ⟨B, 2, none⟩ v2 (fun _ => rfl)) ⟨B, 3, none⟩ v3 (fun _ => rfl)) ⟨B, 4, none⟩ v4 (fun _ => rfl)
theorem set5_size (w : World) (B : Nat) (v0 v1 v2 v3 v4 : Value) : (set5 w B v0 v1 v2 v3 v4).heap.size = w.heap.size := by simp [set5, World.setCell]
theorem Upd.at {S : Nat → Prop} {w w' : World} (h : Upd S w w') {k : Nat} {o : Obj} (hk : w.heap[k]? = some o) (hn : ¬ S k) : w'.heap[k]? = some o := by rw [h.block k (lt_of_some hk) hn]; exact hk

theorem drop_cons {α : Type} (l : List α) (k : Nat) (h : k < l.length) : l.drop k = l[k] :: l.drop (k + 1) := List.drop_eq_getElem_cons h

/-- What one round of List does. -/
theorem list_round {n : Nat} {ds : List D} {w wr : World} {j : Nat} {a0 a1 a2 a3 a4 b0 b1 b2 b3 b4 : Value} {z : Obj} (hj : j < ds.length)
    (hR : wr.heap[w.heap.size]? = some z) (hV : wr.heap[w.heap.size + 1]? = some (Obj.cells #[a0, a1, a2, a3, a4] 96 (0, 0)))
    (hch : Chain wr (RV wr n) #[a0, a1, a2, a3, a4] (ds.drop (j + 1))) (hb : Below w.heap.size w wr) (hsz : w.heap.size + 2 ≤ wr.heap.size) (hE : RV w n #[b0, b1, b2, b3, b4] ds[j]) (W' : World)
    (hW : W' = ((set5 wr (w.heap.size + 1) (.int .i64 5) (.int .i64 0) (.string ⟨#[]⟩) (.pointer (some ⟨wr.heap.size, 0, none⟩)) (.pointer none)).alloc (.cells #[b0, b1, b2, b3, b4, a0, a1, a2, a3, a4] 162)).drew) :
    W'.heap[w.heap.size]? = some z ∧ (∃ c, W'.heap[w.heap.size + 1]? = some (Obj.cells c 96 (0, 0)) ∧ c.size = 5 ∧ Chain W' (RV W' n) c (ds.drop j)) ∧ Below w.heap.size w W' ∧ w.heap.size + 2 ≤ W'.heap.size := by
  have hH : W'.heap = ((set5 wr (w.heap.size + 1) (.int .i64 5) (.int .i64 0) (.string ⟨#[]⟩) (.pointer (some ⟨wr.heap.size, 0, none⟩)) (.pointer none)).alloc (.cells #[b0, b1, b2, b3, b4, a0, a1, a2, a3, a4] 162)).heap := by rw [hW]; rfl
  have hu : Upd (fun k => k = w.heap.size + 1) wr W' := by rw [hW]; exact ((set5_upd _ _ _ _ _ _ _).alloc _).drew
  have hk : Keep 162 wr W' := Keep.of_upd hu (by intro k c hk; subst hk; rw [hV]; simp)
  refine ⟨hu.at hR (by omega), ⟨#[.int .i64 5, .int .i64 0, .string ⟨#[]⟩, .pointer (some ⟨wr.heap.size, 0, none⟩), .pointer none], ?_, rfl, ?_⟩, (hb.trans (hu.below (by omega) (by intro k hk; omega))), by have := hu.size; omega⟩
  · rw [hH]
    exact heap_alloc_lt (set5_same _ _ _ _ _ hV)
  · rw [drop_cons ds j hj]
    refine ⟨wr.heap.size, #[b0, b1, b2, b3, b4], #[a0, a1, a2, a3, a4], rfl, ?_, rfl, rfl, RV.keep ((Keep.of_below hb).trans hk) _ _ _ hE, Chain.keep hk (RV.keep hk n) _ _ hch⟩
    have hn := heap_alloc_new (set5 wr (w.heap.size + 1) (.int .i64 5) (.int .i64 0) (.string ⟨#[]⟩) (.pointer (some ⟨wr.heap.size, 0, none⟩)) (.pointer none)) (.cells #[b0, b1, b2, b3, b4, a0, a1, a2, a3, a4] 162)
    rw [set5_size] at hn
    rw [hH]; exact hn
    /- rw [← set5_size wr (w.heap.size + 1) (.int .i64 5) (.int .i64 0) (.string ⟨#[]⟩) (.pointer (some ⟨wr.heap.size, 0, none⟩)) (.pointer none)]
    exact heap_alloc_new _ _ -/


theorem list_end {n : Nat} {ds : List D} {w wr : World} {c : Array Value} {z : Array Value} {v0 v1 v2 v3 v4 : Value}
    (hR : wr.heap[w.heap.size]? = some (Obj.cells z 96 (0, 0))) (hch : Chain wr (RV wr n) c (ds.drop 0)) (hb : Below w.heap.size w wr) (hlen : ds.length ≤ 1000) :
    RV (set5 wr w.heap.size v0 v1 v2 v3 v4) (n + 1) c (.agg ds) ∧ Below w.heap.size w (set5 wr w.heap.size v0 v1 v2 v3 v4) := by
  have hu := set5_upd wr w.heap.size v0 v1 v2 v3 v4
  have hk : Keep 162 wr (set5 wr w.heap.size v0 v1 v2 v3 v4) := Keep.of_upd hu (by intro k c hk; subst hk; rw [hR]; simp)
  exact ⟨⟨hlen, Chain.keep hk (RV.keep hk n) _ _ hch⟩, hb.trans (hu.below hb.size (by intro k hk; omega))⟩

set_option maxHeartbeats 1000000 in
theorem list_any (n : Nat) (css : List (Array Value)) (ds : List D) (v : Value) (w : World) (B : Nat) (hrow : Row5 B w v css) (hds : RVs w n css ds) (hlen : ds.length ≤ 1000) :
    Calls Tryz.prog 106 #[v] w fun e w' => ∃ cs, cs.size = 5 ∧ e = .returned (.agg cs) ∧ RV w' (n + 1) cs (.agg ds) ∧ Below w.heap.size w w' := by
  have hl := hds.length
  · obtain ⟨ad, cap, rfl, hc1, hc2, hcell⟩ := ownsRow_slice hrow
    rw [hl] at *
    have HC := hide hcell
    clear hcell
    go_enter Tryz.func106, Tryz.ntmps106
    go_wp2
    have hz0 : ((w.alloc (.cells #[.int .i64 0, .int .i64 0, .string ⟨#[]⟩, .pointer none, .pointer none] 96)).alloc (.cells #[.int .i64 4, .int .i64 0, .string ⟨#[]⟩, .pointer none, .pointer none] 96)).heap.size = w.heap.size + 2 := by simp
    go_loopw [4] (fun i wr => ∃ k : Nat, k ≤ ds.length ∧ i = .int .i64 ((k : Int) - 1) ∧ wr.heap[w.heap.size]? = some (.cells #[.int .i64 0, .int .i64 0, .string ⟨#[]⟩, .pointer none, .pointer none] 96 (0, 0)) ∧
        (∃ c, wr.heap[w.heap.size + 1]? = some (.cells c 96 (0, 0)) ∧ c.size = 5 ∧ Chain wr (RV wr n) c (ds.drop k)) ∧ Below w.heap.size w wr ∧ w.heap.size + 2 ≤ wr.heap.size)
      (fun i _ => (intOf i + 1).toNat)
    case atStart =>
      refine ⟨ds.length, Nat.le_refl _, rfl, ?_, ⟨_, ?_, rfl, by rw [List.drop_length]; rfl⟩, ?_, by rw [hz0]; omega⟩
      · refine heap_alloc_lt (heap_alloc_new _ _)
      · have := heap_alloc_new (w.alloc (.cells #[.int .i64 0, .int .i64 0, .string ⟨#[]⟩, .pointer none, .pointer none] 96)) (.cells #[.int .i64 4, .int .i64 0, .string ⟨#[]⟩, .pointer none, .pointer none] 96)
        simpa [rcells, emptyB] using this
      · exact (((Below.refl _ _).alloc (Nat.le_refl _) _).alloc (by simp) _)
    case round =>
      obtain ⟨k, hk, rfl, hR, ⟨c, hV, hc5, hch⟩, hb, hsz⟩ := hrel
      rcases Nat.eq_zero_or_pos k with rfl | hkp
      · obtain ⟨ck, cm, cs, cp, rfl⟩ := hch.form
        have v0 := cell_of_block hV 0
        have v1 := cell_of_block hV 1
        have v2 := cell_of_block hV 2
        have v3 := cell_of_block hV 3
        have v4 := cell_of_block hV 4
        simp [rcells] at v0 v1 v2 v3 v4
        have r0 := cell_of_block hR 0
        have r1 := cell_of_block hR 1
        have r2 := cell_of_block hR 2
        have r3 := cell_of_block hR 3
        have r4 := cell_of_block hR 4
        simp at r0 r1 r2 r3 r4
        have f0 := frozen_of_block hR 0
        have f1 := frozen_of_block hR 1
        have f2 := frozen_of_block hR 2
        have f3 := frozen_of_block hR 3
        have f4 := frozen_of_block hR 4
        have HR := hide hR
        have HV := hide hV
        have HH := hide hch
        have HB := hide hb
        clear hR hV hch hb hc5
        have hS := set5_same (.int .i64 ck) (.int .i64 cm) (.string cs) (.pointer cp) (.pointer none) HR.out
        have q0 := cell_of_block hS 0
        have q1 := cell_of_block hS 1
        have q2 := cell_of_block hS 2
        have q3 := cell_of_block hS 3
        have q4 := cell_of_block hS 4
        clear hS
        have q0 : _ = some (Value.int .i64 ck) := q0
        have q1 : _ = some (Value.int .i64 cm) := q1
        have q2 : _ = some (Value.string cs) := q2
        have q3 : _ = some (Value.pointer cp) := q3
        have q4 : _ = some (Value.pointer none) := q4
        unfold set5 at q0 q1 q2 q3 q4
        go_wp2
        refine bodyPost_ret (v := .agg (rcells ck cm cs cp)) (by simp [results, Tryz.results106, go_sem, rcells, q0, q1, q2, q3, q4]) rfl ⟨_, ?_, rfl, ?_, ?_⟩
        · rfl
        · exact (list_end HR.out HH.out HB.out hlen).1
        · exact (list_end HR.out HH.out HB.out hlen).2
      · obtain ⟨j, rfl⟩ : ∃ j, k = j + 1 := ⟨k - 1, by omega⟩
        obtain ⟨a0, a1, a2, a3, a4, rfl⟩ := cells5 c hc5
        obtain ⟨e, he1, he5, heR, heC⟩ := flat_at hds j (by omega)
        obtain ⟨g, rfl, _, hg, hcell⟩ := HC.out (by omega)
        have HC := hide hcell
        clear hcell
        obtain ⟨b0, b1, b2, b3, b4, rfl⟩ := cells5 e he5
        have v0 := cell_of_block hV 0
        have v1 := cell_of_block hV 1
        have v2 := cell_of_block hV 2
        have v3 := cell_of_block hV 3
        have v4 := cell_of_block hV 4
        have f0 := frozen_of_block hV 0
        have f1 := frozen_of_block hV 1
        have f2 := frozen_of_block hV 2
        have f3 := frozen_of_block hV 3
        have f4 := frozen_of_block hV 4
        simp at v0 v1 v2 v3 v4
        have s0 : wr.cell? ⟨g, j * 5, none⟩ = some b0 := by rw [hb.cell (p := ⟨g, j * 5, none⟩) hg]; exact HC.out _ _ (by have := heC 0 (by omega); simpa using this)
        have s1 : wr.cell? ⟨g, j * 5 + 1, none⟩ = some b1 := by rw [hb.cell (p := ⟨g, j * 5 + 1, none⟩) hg]; exact HC.out _ _ (by have := heC 1 (by omega); simpa using this)
        have s2 : wr.cell? ⟨g, j * 5 + 2, none⟩ = some b2 := by rw [hb.cell (p := ⟨g, j * 5 + 2, none⟩) hg]; exact HC.out _ _ (by have := heC 2 (by omega); simpa using this)
        have s3 : wr.cell? ⟨g, j * 5 + 3, none⟩ = some b3 := by rw [hb.cell (p := ⟨g, j * 5 + 3, none⟩) hg]; exact HC.out _ _ (by have := heC 3 (by omega); simpa using this)
        have s4 : wr.cell? ⟨g, j * 5 + 4, none⟩ = some b4 := by rw [hb.cell (p := ⟨g, j * 5 + 4, none⟩) hg]; exact HC.out _ _ (by have := heC 4 (by omega); simpa using this)
        have HR := hide hR
        have HV := hide hV
        have HH := hide hch
        have HB := hide hb
        have HE := hide heR
        clear hR hV hch hb heR heC hc5 he5 he1
        have hlt1 : w.heap.size + 1 < wr.heap.size := by omega
        have hlt0 : w.heap.size < wr.heap.size := by omega
        have hjl : j < ds.length := by omega
        go_wp2
        go_region
        go_wp2
        go_roundw
        case rel => exact ⟨j, by omega, rfl, list_round hjl HR.out HV.out HH.out HB.out hsz HE.out _ rfl⟩
        case measure => simp [intOf]
end Go.Proofs.YtlobegpjenabaaaGreatDoor
