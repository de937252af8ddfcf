/- latheref: wrong, List, Items. -/
import Derived.Test.YtlobegpjenabaaaGreatDoorK02
import Derived.Deep.RegionHeld3
import Derived.Test.YtlobegpjenabaaaGreatDoorK01
namespace Go.Proofs.YtlobegpjenabaaaGreatDoor
open Go.RowKit
set_option linter.unusedSimpArgs false
set_option linter.unusedVariables false

/-- A cursor in memory. -/
def cur (s : ByteArray) (i e a : Int) : Obj := .cells #[.string s, .int .i64 i, .int .i64 e, .int .i64 a] 154 (0, 0)

theorem cell_of_block {w : World} {b : Nat} {c : Array Value} {T : TypeId} {fz : Nat × Nat} (h : w.heap[b]? = some (Obj.cells c T fz)) (o : Nat) : w.cell? ⟨b, o, none⟩ = c[o]? := by simp [World.cell?, h]
theorem frozen_of_block {w : World} {b : Nat} {c : Array Value} {T : TypeId} (h : w.heap[b]? = some (Obj.cells c T (0, 0))) (o : Nat) : w.frozen? ⟨b, o, none⟩ = false := by simp [World.frozen?, h]
theorem heap_setCell_same {w : World} {b o : Nat} {c : Array Value} {T : TypeId} {fz : Nat × Nat} {v : Value} (h : w.heap[b]? = some (Obj.cells c T fz)) : (w.setCell ⟨b, o, none⟩ v).heap[b]? = some (Obj.cells (c.setIfInBounds o v) T fz) := by
  simp only [World.setCell, Array.getElem?_modify]
  simp [h]
theorem heap_alloc_lt {w : World} {o : Obj} {b : Nat} {x : Obj} (h : w.heap[b]? = some x) : (w.alloc o).heap[b]? = some x := by
  rw [Below.heap_alloc _ _ _ (lt_of_some h)]; exact h

set_option maxHeartbeats 400000 in
theorem wrong_any (s : ByteArray) (i e0 a0 e a : Int) (C : Nat) (w : World) (hC : w.heap[C]? = some (cur s i e0 a0)) :
    Calls Tryz.prog 104 #[.pointer (some ⟨C, 0, none⟩), .int .i64 e, .int .i64 a] w fun r w' =>
      r = .returned (.agg (rcells 0 0 emptyB none)) ∧ w'.heap[C]? = some (cur s i e a) ∧ Upd (fun k => k = C) w w' := by
  have c2 := cell_of_block hC 2
  have c3 := cell_of_block hC 3
  have f2 := frozen_of_block hC 2
  have f3 := frozen_of_block hC 3
  simp at c2 c3
  have hl := lt_of_some hC
  have HC := hide hC
  clear hC
  go_enter Tryz.func104, Tryz.ntmps104
  go_wp2
  refine bodyPost_ret (v := .agg #[.int .i64 0, .int .i64 0, .string emptyB, .pointer none, .pointer none]) (by simp [results, Tryz.results104, go_sem, emptyB]) rfl ⟨rfl, ?_, ?_⟩
  · refine heap_alloc_lt ?_
    exact heap_setCell_same (heap_setCell_same HC.out)
  · exact Upd.alloc (Upd.setCell (Upd.setCell (Upd.refl (fun k => k = C) w) ⟨C, 2, none⟩ _ (fun _ => rfl)) ⟨C, 3, none⟩ _ (fun _ => rfl)) _

/-- A row of values in memory, with its cells. -/
def Row5 (B : Nat) (w : World) (v : Value) (css : List (Array Value)) : Prop := w.ownsRow B 96 5 v css.length (flat css)

theorem ownsRow_cell {w : World} {base e size n : Nat} {v : Value} {xs : List Value} (h : w.ownsRow base e size v n xs) (hn : 0 < n) : ∃ g cap, v = .slice (some ⟨g, 0, none⟩) n cap ∧ base ≤ g ∧ g < w.heap.size ∧ n ≤ cap ∧ cap ≤ maxLen ∧ ∀ (j : Nat) u, xs[j]? = some u → w.cell? ⟨g, j, none⟩ = some u := by
  obtain ⟨hx, h⟩ := h
  rcases h with ⟨_, h0⟩ | ⟨g, cap, cu, hv, hb, hg, h1, h2, h3, h4⟩
  · omega
  · refine ⟨g, cap, hv, hb, lt_of_some hg, h1, h2, fun j u hj => ?_⟩
    rw [cell_of_block hg]
    rw [← h4] at hj
    rw [List.getElem?_take] at hj
    split at hj
    · simpa using hj
    · cases hj

theorem ownsRow_slice {w : World} {base e size n : Nat} {v : Value} {xs : List Value} (h : w.ownsRow base e size v n xs) : ∃ a cap, v = .slice a n cap ∧ n ≤ cap ∧ cap ≤ maxLen ∧ (0 < n → ∃ g, a = some ⟨g, 0, none⟩ ∧ base ≤ g ∧ g < w.heap.size ∧ ∀ (j : Nat) u, xs[j]? = some u → w.cell? ⟨g, j, none⟩ = some u) := by
  rcases Nat.eq_zero_or_pos n with h0 | hp
  · subst h0
    rcases h.2 with ⟨hv, _⟩ | ⟨g, cap, cu, hv, hb, hg, h1, h2, h3, h4⟩
    · exact ⟨none, 0, hv, Nat.le_refl _, Nat.zero_le _, fun h => absurd h (by omega)⟩
    · exact ⟨_, cap, hv, h1, h2, fun h => absurd h (by omega)⟩
  · obtain ⟨g, cap, hv, hb, hg, h1, h2, h3⟩ := ownsRow_cell h hp
    exact ⟨_, cap, hv, h1, h2, fun _ => ⟨g, rfl, hb, hg, h3⟩⟩

theorem Chain.form {w : World} {R : Array Value → D → Prop} : ∀ {l : List D} {cs : Array Value}, Chain w R cs l → ∃ k m s p, cs = rcells k m s p
  | [], cs, h => ⟨_, _, _, _, h⟩
  | _ :: _, cs, h => by obtain ⟨b, c1, c2, e, _⟩ := h; exact ⟨_, _, _, _, e⟩

/-- Five cells written, one by one. -/
def set5 (w : World) (B : Nat) (v0 v1 v2 v3 v4 : Value) : World := ((((w.setCell ⟨B, 0, none⟩ v0).setCell ⟨B, 1, none⟩ v1).setCell ⟨B, 2, none⟩ v2).setCell ⟨B, 3, none⟩ v3).setCell ⟨B, 4, none⟩ v4
theorem set5_same {w : World} {B : Nat} {a0 a1 a2 a3 a4 : Value} {T : TypeId} {fz : Nat × Nat} (v0 v1 v2 v3 v4 : Value) (h : w.heap[B]? = some (Obj.cells #[a0, a1, a2, a3, a4] T fz)) :
    (set5 w B v0 v1 v2 v3 v4).heap[B]? = some (Obj.cells #[v0, v1, v2, v3, v4] T fz) := by
  have := heap_setCell_same (o := 4) (v := v4) (heap_setCell_same (o := 3) (v := v3) (heap_setCell_same (o := 2) (v := v2) (heap_setCell_same (o := 1) (v := v1) (heap_setCell_same (o := 0) (v := v0) h))))
  unfold set5; simpa using this
theorem set5_upd (w : World) (B : Nat) (v0 v1 v2 v3 v4 : Value) : Upd (fun k => k = B) w (set5 w B v0 v1 v2 v3 v4) :=
  Upd.setCell (Upd.setCell (Upd.setCell (Upd.setCell (Upd.setCell (Upd.refl (fun k => k = B) w) ⟨B, 0, none⟩ v0 (fun _ => rfl)) ⟨B, 1, none⟩ v1 (fun _ => rfl)) ⟨B, 2, none⟩ v2 (fun _ => rfl)) ⟨B, 3, none⟩ v3 (fun _ => rfl)) ⟨B, 4, none⟩ v4 (fun _ => rfl)
theorem set5_size (w : World) (B : Nat) (v0 v1 v2 v3 v4 : Value) : (set5 w B v0 v1 v2 v3 v4).heap.size = w.heap.size := by simp [set5, World.setCell]
theorem Upd.at {S : Nat → Prop} {w w' : World} (h : Upd S w w') {k : Nat} {o : Obj} (hk : w.heap[k]? = some o) (hn : ¬ S k) : w'.heap[k]? = some o := by rw [h.block k (lt_of_some hk) hn]; exact hk

theorem drop_cons {α : Type} (l : List α) (k : Nat) (h : k < l.length) : l.drop k = l[k] :: l.drop (k + 1) := List.drop_eq_getElem_cons h

/-- What one round of List does. -/
theorem list_round {n : Nat} {ds : List D} {w wr : World} {j : Nat} {a0 a1 a2 a3 a4 b0 b1 b2 b3 b4 : Value} {z : Obj} (hj : j < ds.length)
    (hR : wr.heap[w.heap.size]? = some z) (hV : wr.heap[w.heap.size + 1]? = some (Obj.cells #[a0, a1, a2, a3, a4] 96 (0, 0)))
    (hch : Chain wr (RV wr n) #[a0, a1, a2, a3, a4] (ds.drop (j + 1))) (hb : Below w.heap.size w wr) (hsz : w.heap.size + 2 ≤ wr.heap.size) (hE : RV w n #[b0, b1, b2, b3, b4] ds[j]) (W' : World)
    (hW : W' = ((set5 wr (w.heap.size + 1) (.int .i64 5) (.int .i64 0) (.string ⟨#[]⟩) (.pointer (some ⟨wr.heap.size, 0, none⟩)) (.pointer none)).alloc (.cells #[b0, b1, b2, b3, b4, a0, a1, a2, a3, a4] 162)).drew) :
    W'.heap[w.heap.size]? = some z ∧ (∃ c, W'.heap[w.heap.size + 1]? = some (Obj.cells c 96 (0, 0)) ∧ c.size = 5 ∧ Chain W' (RV W' n) c (ds.drop j)) ∧ Below w.heap.size w W' ∧ w.heap.size + 2 ≤ W'.heap.size := by
  have hH : W'.heap = ((set5 wr (w.heap.size + 1) (.int .i64 5) (.int .i64 0) (.string ⟨#[]⟩) (.pointer (some ⟨wr.heap.size, 0, none⟩)) (.pointer none)).alloc (.cells #[b0, b1, b2, b3, b4, a0, a1, a2, a3, a4] 162)).heap := by rw [hW]; rfl
  have hu : Upd (fun k => k = w.heap.size + 1) wr W' := by rw [hW]; exact ((set5_upd _ _ _ _ _ _ _).alloc _).drew
  have hk : Keep 162 wr W' := Keep.of_upd hu (by intro k c hk; subst hk; rw [hV]; simp)
  refine ⟨hu.at hR (by omega), ⟨#[.int .i64 5, .int .i64 0, .string ⟨#[]⟩, .pointer (some ⟨wr.heap.size, 0, none⟩), .pointer none], ?_, rfl, ?_⟩, (hb.trans (hu.below (by omega) (by intro k hk; omega))), by have := hu.size; omega⟩
  · rw [hH]
    exact heap_alloc_lt (set5_same _ _ _ _ _ hV)
  · rw [drop_cons ds j hj]
    refine ⟨wr.heap.size, #[b0, b1, b2, b3, b4], #[a0, a1, a2, a3, a4], rfl, ?_, rfl, rfl, RV.keep ((Keep.of_below hb).trans hk) _ _ _ hE, Chain.keep hk (RV.keep hk n) _ _ hch⟩
    have hn := heap_alloc_new (set5 wr (w.heap.size + 1) (.int .i64 5) (.int .i64 0) (.string ⟨#[]⟩) (.pointer (some ⟨wr.heap.size, 0, none⟩)) (.pointer none)) (.cells #[b0, b1, b2, b3, b4, a0, a1, a2, a3, a4] 162)
    rw [set5_size] at hn
    rw [hH]; exact hn
    /- rw [← set5_size wr (w.heap.size + 1) (.int .i64 5) (.int .i64 0) (.string ⟨#[]⟩) (.pointer (some ⟨wr.heap.size, 0, none⟩)) (.pointer none)]
    exact heap_alloc_new _ _ -/


theorem list_end {n : Nat} {ds : List D} {w wr : World} {c : Array Value} {z : Array Value} {v0 v1 v2 v3 v4 : Value}
    (hR : wr.heap[w.heap.size]? = some (Obj.cells z 96 (0, 0))) (hch : Chain wr (RV wr n) c (ds.drop 0)) (hb : Below w.heap.size w wr) (hlen : ds.length ≤ 1000) :
    RV (set5 wr w.heap.size v0 v1 v2 v3 v4) (n + 1) c (.agg ds) ∧ Below w.heap.size w (set5 wr w.heap.size v0 v1 v2 v3 v4) := by
  have hu := set5_upd wr w.heap.size v0 v1 v2 v3 v4
  have hk : Keep 162 wr (set5 wr w.heap.size v0 v1 v2 v3 v4) := Keep.of_upd hu (by intro k c hk; subst hk; rw [hR]; simp)
  exact ⟨⟨hlen, Chain.keep hk (RV.keep hk n) _ _ hch⟩, hb.trans (hu.below hb.size (by intro k hk; omega))⟩

set_option maxHeartbeats 1000000 in
theorem list_any (n : Nat) (css : List (Array Value)) (ds : List D) (v : Value) (w : World) (B : Nat) (hrow : Row5 B w v css) (hds : RVs w n css ds) (hlen : ds.length ≤ 1000) :
    Calls Tryz.prog 106 #[v] w fun e w' => ∃ cs, cs.size = 5 ∧ e = .returned (.agg cs) ∧ RV w' (n + 1) cs (.agg ds) ∧ Below w.heap.size w w' := by
  have hl := hds.length
  · obtain ⟨ad, cap, rfl, hc1, hc2, hcell⟩ := ownsRow_slice hrow
    rw [hl] at *
    have HC := hide hcell
    clear hcell
    go_enter Tryz.func106, Tryz.ntmps106
    go_wp2
    have hz0 : ((w.alloc (.cells #[.int .i64 0, .int .i64 0, .string ⟨#[]⟩, .pointer none, .pointer none] 96)).alloc (.cells #[.int .i64 4, .int .i64 0, .string ⟨#[]⟩, .pointer none, .pointer none] 96)).heap.size = w.heap.size + 2 := by simp
    go_loopw [4] (fun i wr => ∃ k : Nat, k ≤ ds.length ∧ i = .int .i64 ((k : Int) - 1) ∧ wr.heap[w.heap.size]? = some (.cells #[.int .i64 0, .int .i64 0, .string ⟨#[]⟩, .pointer none, .pointer none] 96 (0, 0)) ∧
        (∃ c, wr.heap[w.heap.size + 1]? = some (.cells c 96 (0, 0)) ∧ c.size = 5 ∧ Chain wr (RV wr n) c (ds.drop k)) ∧ Below w.heap.size w wr ∧ w.heap.size + 2 ≤ wr.heap.size)
      (fun i _ => (intOf i + 1).toNat)
    case atStart =>
      refine ⟨ds.length, Nat.le_refl _, rfl, ?_, ⟨_, ?_, rfl, by rw [List.drop_length]; rfl⟩, ?_, by rw [hz0]; omega⟩
      · refine heap_alloc_lt (heap_alloc_new _ _)
      · have := heap_alloc_new (w.alloc (.cells #[.int .i64 0, .int .i64 0, .string ⟨#[]⟩, .pointer none, .pointer none] 96)) (.cells #[.int .i64 4, .int .i64 0, .string ⟨#[]⟩, .pointer none, .pointer none] 96)
        simpa [rcells, emptyB] using this
      · exact (((Below.refl _ _).alloc (Nat.le_refl _) _).alloc (by simp) _)
    case round =>
      obtain ⟨k, hk, rfl, hR, ⟨c, hV, hc5, hch⟩, hb, hsz⟩ := hrel
      rcases Nat.eq_zero_or_pos k with rfl | hkp
      · obtain ⟨ck, cm, cs, cp, rfl⟩ := hch.form
        have v0 := cell_of_block hV 0
        have v1 := cell_of_block hV 1
        have v2 := cell_of_block hV 2
        have v3 := cell_of_block hV 3
        have v4 := cell_of_block hV 4
        simp [rcells] at v0 v1 v2 v3 v4
        have r0 := cell_of_block hR 0
        have r1 := cell_of_block hR 1
        have r2 := cell_of_block hR 2
        have r3 := cell_of_block hR 3
        have r4 := cell_of_block hR 4
        simp at r0 r1 r2 r3 r4
        have f0 := frozen_of_block hR 0
        have f1 := frozen_of_block hR 1
        have f2 := frozen_of_block hR 2
        have f3 := frozen_of_block hR 3
        have f4 := frozen_of_block hR 4
        have HR := hide hR
        have HV := hide hV
        have HH := hide hch
        have HB := hide hb
        clear hR hV hch hb hc5
        have hS := set5_same (.int .i64 ck) (.int .i64 cm) (.string cs) (.pointer cp) (.pointer none) HR.out
        have q0 := cell_of_block hS 0
        have q1 := cell_of_block hS 1
        have q2 := cell_of_block hS 2
        have q3 := cell_of_block hS 3
        have q4 := cell_of_block hS 4
        clear hS
        have q0 : _ = some (Value.int .i64 ck) := q0
        have q1 : _ = some (Value.int .i64 cm) := q1
        have q2 : _ = some (Value.string cs) := q2
        have q3 : _ = some (Value.pointer cp) := q3
        have q4 : _ = some (Value.pointer none) := q4
        unfold set5 at q0 q1 q2 q3 q4
        go_wp2
        refine bodyPost_ret (v := .agg (rcells ck cm cs cp)) (by simp [results, Tryz.results106, go_sem, rcells, q0, q1, q2, q3, q4]) rfl ⟨_, ?_, rfl, ?_, ?_⟩
        · rfl
        · exact (list_end HR.out HH.out HB.out hlen).1
        · exact (list_end HR.out HH.out HB.out hlen).2
      · obtain ⟨j, rfl⟩ : ∃ j, k = j + 1 := ⟨k - 1, by omega⟩
        obtain ⟨a0, a1, a2, a3, a4, rfl⟩ := cells5 c hc5
        obtain ⟨e, he1, he5, heR, heC⟩ := flat_at hds j (by omega)
        obtain ⟨g, rfl, _, hg, hcell⟩ := HC.out (by omega)
        have HC := hide hcell
        clear hcell
        obtain ⟨b0, b1, b2, b3, b4, rfl⟩ := cells5 e he5
        have v0 := cell_of_block hV 0
        have v1 := cell_of_block hV 1
        have v2 := cell_of_block hV 2
        have v3 := cell_of_block hV 3
        have v4 := cell_of_block hV 4
        have f0 := frozen_of_block hV 0
        have f1 := frozen_of_block hV 1
        have f2 := frozen_of_block hV 2
        have f3 := frozen_of_block hV 3
        have f4 := frozen_of_block hV 4
        simp at v0 v1 v2 v3 v4
        have s0 : wr.cell? ⟨g, j * 5, none⟩ = some b0 := by rw [hb.cell (p := ⟨g, j * 5, none⟩) hg]; exact HC.out _ _ (by have := heC 0 (by omega); simpa using this)
        have s1 : wr.cell? ⟨g, j * 5 + 1, none⟩ = some b1 := by rw [hb.cell (p := ⟨g, j * 5 + 1, none⟩) hg]; exact HC.out _ _ (by have := heC 1 (by omega); simpa using this)
        have s2 : wr.cell? ⟨g, j * 5 + 2, none⟩ = some b2 := by rw [hb.cell (p := ⟨g, j * 5 + 2, none⟩) hg]; exact HC.out _ _ (by have := heC 2 (by omega); simpa using this)
        have s3 : wr.cell? ⟨g, j * 5 + 3, none⟩ = some b3 := by rw [hb.cell (p := ⟨g, j * 5 + 3, none⟩) hg]; exact HC.out _ _ (by have := heC 3 (by omega); simpa using this)
        have s4 : wr.cell? ⟨g, j * 5 + 4, none⟩ = some b4 := by rw [hb.cell (p := ⟨g, j * 5 + 4, none⟩) hg]; exact HC.out _ _ (by have := heC 4 (by omega); simpa using this)
        have HR := hide hR
        have HV := hide hV
        have HH := hide hch
        have HB := hide hb
        have HE := hide heR
        clear hR hV hch hb heR heC hc5 he5 he1
        have hlt1 : w.heap.size + 1 < wr.heap.size := by omega
        have hlt0 : w.heap.size < wr.heap.size := by omega
        have hjl : j < ds.length := by omega
        go_wp2
        go_region
        go_wp2
        go_roundw
        case rel => exact ⟨j, by omega, rfl, list_round hjl HR.out HV.out HH.out HB.out hsz HE.out _ rfl⟩
        case measure => simp [intOf]
end Go.Proofs.YtlobegpjenabaaaGreatDoor

/- latheref.Items. -/
namespace Go.Proofs.YtlobegpjenabaaaGreatDoor
open Go.RowKit
set_option linter.unusedSimpArgs false
set_option linter.unusedVariables false

def zero5 : Value := .agg #[.int .i64 0, .int .i64 0, .string ⟨#[]⟩, .pointer none, .pointer none]
theorem infoV : (Tryz.prog.info? 96).map (fun i => (i.zero, i.size, i.bytes)) = some (some zero5, 5, 48) := by kernel_rfl

theorem Row5.nil (B : Nat) (w : World) : Row5 B w (.slice none 0 0) [] := World.ownsRow_nil _ _ _ _

theorem ownsRow_of_upd {w w' : World} {S : Nat → Prop} {base e size n : Nat} {v : Value} {xs : List Value} (h : w.ownsRow base e size v n xs) (hu : Upd S w w') (hs : ∀ g, v.ownBlock = some g → ¬ S g) : w'.ownsRow base e size v n xs := by
  obtain ⟨h1, h2⟩ := h
  refine ⟨h1, ?_⟩
  rcases h2 with h2 | ⟨g, cap, cu, hv, hg, hh, r⟩
  · exact Or.inl h2
  · exact Or.inr ⟨g, cap, cu, hv, hg, hu.at hh (hs g (by rw [hv]; rfl)), r⟩
theorem ownsRow_ge {w : World} {base e size n : Nat} {v : Value} {xs : List Value} (h : w.ownsRow base e size v n xs) {g : Nat} (hg : v.ownBlock = some g) : base ≤ g ∧ g < w.heap.size := by
  rcases h.2 with ⟨hv, _⟩ | ⟨g', cap, cu, hv, hb, hh, r⟩
  · rw [hv] at hg; cases hg
  · rw [hv] at hg; cases hg; exact ⟨hb, lt_of_some hh⟩
theorem ownsRow_base {w : World} {base b' e size n : Nat} {v : Value} {xs : List Value} (h : w.ownsRow base e size v n xs) (hb : b' ≤ base) : w.ownsRow b' e size v n xs := by
  obtain ⟨h1, h2⟩ := h
  refine ⟨h1, ?_⟩
  rcases h2 with h2 | ⟨g, cap, cu, hv, hg, r⟩
  · exact Or.inl h2
  · exact Or.inr ⟨g, cap, cu, hv, Nat.le_trans hb hg, r⟩
theorem ownsRow_notPair {w : World} {base size n : Nat} {v : Value} {xs : List Value} {T : TypeId} (h : w.ownsRow base 96 size v n xs) (hT : T ≠ 96) : ∀ (k : Nat) c, v.ownBlock = some k → ¬ w.heap[k]? = some (Obj.cells c T (0, 0)) := by
  intro k c hk
  rcases h.2 with ⟨hv, _⟩ | ⟨g', cap, cu, hv, hb, hh, r⟩
  · rw [hv] at hk; cases hk
  · rw [hv] at hk; cases hk; rw [hh]; simp; intro _ h; exact absurd h.symm hT

set_option maxHeartbeats 1000000 in
/-- Of what is no list. -/
theorem items_atom (k m : Int) (s : ByteArray) (p : Option Addr) (w : World) (h5 : (k == 5) = false) :
    Calls Tryz.prog 66 #[.agg (rcells k m s p)] w fun e w' => e = .returned (.tuple #[.slice none 0 0, .bool (k == 4)]) ∧ Below w.heap.size w w' := by
  unfold rcells
  go_enter Tryz.func66, Tryz.ntmps66
  go_wp2
  go_loopw [4] (fun v wr => v = .slice none 0 0 ∧ wr = w.alloc (.cells #[.int .i64 k, .int .i64 m, .string s, .pointer p, .pointer none] 96)) (fun _ _ => 0)
  case atStart => exact ⟨rfl, rfl⟩
  case round =>
    obtain ⟨rfl, rfl⟩ := hrel
    go_wp2
    go_quiet (fail)
    go_wp2
    go_ret2
    exact ⟨rfl, Upd.below (S := fun _ => False) (Upd.drewN (Upd.alloc (Upd.refl _ w) _) _) (Nat.le_refl _) (fun _ h => h.elim)⟩

theorem news5 {w : World} {b : Nat} {a0 a1 a2 a3 a4 : Value} {T : TypeId} {fz : Nat × Nat} (h : w.heap[b]? = some (Obj.cells #[a0, a1, a2, a3, a4] T fz)) : ∀ (j : Nat) u, [a0, a1, a2, a3, a4][j]? = some u → w.cell? (Addr.add ⟨b, 0, none⟩ j) = some u := World.news_of_block h
theorem one5 (k m : Int) (s : ByteArray) (p : Option Addr) : ∀ u ∈ [Value.int .i64 k, .int .i64 m, .string s, .pointer p, .pointer none], u.oneCell' = true := by
  intro u hu
  simp at hu
  rcases hu with rfl | rfl | rfl | rfl | rfl <;> rfl

theorem items_upd {w w1 : World} {o : Obj} {row : Option Nat} (h : (w.alloc o).grownBy w1 row) : Upd (fun k => row = some k) w w1 := Upd.grown ((Upd.refl _ w).alloc o) h (fun k hk _ => hk)

/-- What stands in the walk of Items at a round's head. -/
def ItemsRel (w : World) (n : Nat) (l : List D) (v : Value) (wr : World) (k : Nat) : Prop :=
  (∃ css, Row5 (w.heap.size + 1) wr v css ∧ RVs wr n css (l.take k)) ∧ (∃ c, wr.heap[w.heap.size]? = some (Obj.cells c 96 (0, 0)) ∧ Chain wr (RV wr n) c (l.drop k)) ∧ Below w.heap.size w wr ∧ w.heap.size + 1 ≤ wr.heap.size

def lenOf : Value → Nat | .slice _ n _ => n | _ => 0
theorem ownsRow_len {w : World} {base e size n : Nat} {v : Value} {xs : List Value} (h : w.ownsRow base e size v n xs) : lenOf v = n := by
  rcases h.2 with ⟨hv, h0⟩ | ⟨g', cap, cu, hv, r⟩
  · rw [hv, h0]; rfl
  · rw [hv]; rfl
theorem flat_snoc (css : List (Array Value)) (c : Array Value) : flat (css ++ [c]) = flat css ++ c.toList := by simp [flat]

theorem items_round {w wr w1 : World} {n : Nat} {l : List D} {v v' : Value} {k : Nat} {css : List (Array Value)} {b : Nat} {k1 m1 k2 m2 : Int} {s1 s2 : ByteArray} {p1 p2 : Option Addr} (hk : k < l.length)
    (hr : Row5 (w.heap.size + 1) wr v css) (hrv : RVs wr n css (l.take k)) (hB1 : w1.heap[w.heap.size]? = some (Obj.cells (rcells 5 0 emptyB (some ⟨b, 0, none⟩)) 96 (0, 0)))
    (hd : RV wr n (rcells k1 m1 s1 p1) l[k]) (ht : Chain wr (RV wr n) (rcells k2 m2 s2 p2) (l.drop (k + 1))) (hb : Below w.heap.size w wr) (hsz : w.heap.size + 1 ≤ wr.heap.size)
    (hu : Upd (fun k => v.ownBlock = some k) wr w1) (ho : w1.ownsRow (w.heap.size + 1) 96 5 v' (css.length + 1) (flat css ++ [.int .i64 k1, .int .i64 m1, .string s1, .pointer p1, .pointer none]))
    (W' : World) (hW : W' = set5 w1 w.heap.size (.int .i64 k2) (.int .i64 m2) (.string s2) (.pointer p2) (.pointer none)) : ItemsRel w n l v' W' (k + 1) := by
  have hu2 : Upd (fun k => k = w.heap.size) w1 W' := by rw [hW]; exact set5_upd _ _ _ _ _ _ _
  have hk1 : Keep 162 wr w1 := Keep.of_upd hu (ownsRow_notPair hr (by decide))
  have hk2 : Keep 162 w1 W' := Keep.of_upd hu2 (by intro k c hk; subst hk; rw [hB1]; simp)
  have hkk := hk1.trans hk2
  refine ⟨⟨css ++ [rcells k1 m1 s1 p1], ?_, ?_⟩, ⟨rcells k2 m2 s2 p2, ?_, ?_⟩, ?_, ?_⟩
  · have := ownsRow_of_upd ho hu2 (fun g hg => by have := (ownsRow_ge ho hg).1; omega)
    unfold Row5; rw [flat_snoc, List.length_append]; exact this
  · rw [List.take_succ_eq_append_getElem hk]
    exact RVs.append (RVs.keep hkk n _ _ hrv) ⟨rfl, RV.keep hkk _ _ _ hd, trivial⟩
  · rw [hW]; exact set5_same _ _ _ _ _ hB1
  · exact Chain.keep hkk (RV.keep hkk n) _ _ ht
  · refine (hb.trans (hu.below hb.size ?_)).trans (hu2.below (Nat.le_trans hb.size hu.size) (by intro k hk; omega))
    intro k hk; have := (ownsRow_ge hr hk).1; omega
  · have := hu.size; have := hu2.size; omega

theorem items_start {w : World} {n : Nat} {l : List D} {a0 a1 a2 a3 a4 : Value} (hv : Chain w (RV w n) #[a0, a1, a2, a3, a4] l) : ItemsRel w n l (.slice none 0 0) (w.alloc (.cells #[a0, a1, a2, a3, a4] 96)) 0 := by
  have hb : Below w.heap.size w (w.alloc (.cells #[a0, a1, a2, a3, a4] 96)) := (Below.refl _ _).alloc (Nat.le_refl _) _
  have hk := Keep.of_below (T := 162) hb
  exact ⟨⟨[], Row5.nil _ _, by simp [RVs]⟩, ⟨_, heap_alloc_new _ _, Chain.keep hk (RV.keep hk n) _ _ hv⟩, hb, by simp⟩

theorem items_end {w wr : World} {n : Nat} {l : List D} {css : List (Array Value)} {v : Value} (hr : Row5 (w.heap.size + 1) wr v css) (hrv : RVs wr n css (l.take l.length)) (hb : Below w.heap.size w wr) (W' : World) (hu : Upd (fun _ => False) wr W') :
    Row5 w.heap.size W' v css ∧ RVs W' n css l ∧ Below w.heap.size w W' := by
  have hk : Keep 162 wr W' := Keep.of_upd hu (fun _ _ h => h.elim)
  refine ⟨ownsRow_base (ownsRow_of_upd hr hu (fun _ _ h => h)) (by omega), ?_, hb.trans (hu.below hb.size (fun _ h => h.elim))⟩
  rw [List.take_length] at hrv
  exact RVs.keep hk n _ _ hrv

set_option maxRecDepth 100000 in
set_option maxHeartbeats 1000000 in
theorem items_list (n : Nat) (l : List D) (cs : Array Value) (w : World) (hv : RV w (n + 1) cs (.agg l)) :
    Calls Tryz.prog 66 #[.agg cs] w fun e w' => ∃ v css, e = .returned (.tuple #[v, .bool true]) ∧ Row5 w.heap.size w' v css ∧ RVs w' n css l ∧ Below w.heap.size w w' := by
  obtain ⟨hl, hch⟩ : l.length ≤ 1000 ∧ Chain w (RV w n) cs l := hv
  obtain ⟨k0, m0, s0, p0, rfl⟩ := hch.form
  have HV := hide hch
  clear hch
  unfold rcells at *
  obtain ⟨i0, hi, hz0, hz1, hz2⟩ := info_parts infoV
  have HI := hide (And.intro hi (And.intro hz0 (And.intro hz1 hz2)))
  clear hi hz0 hz1 hz2
  go_enter Tryz.func66, Tryz.ntmps66
  go_wp2
  go_loopw [4] (fun v wr => ∃ k, k ≤ l.length ∧ ItemsRel w n l v wr k) (fun v _ => l.length - lenOf v)
  case atStart => exact ⟨0, Nat.zero_le _, items_start HV.out⟩
  case round =>
    obtain ⟨k, hk, ⟨css, hrow, hrvs⟩, ⟨c, hB, hch⟩, hb, hsz⟩ := hrel
    rcases Nat.lt_or_eq_of_le hk with hlt | rfl
    · rw [drop_cons l k hlt] at hch
      obtain ⟨b, c1, c2, rfl, hP, h15, h25, hd, hr⟩ := hch
      obtain ⟨k1, m1, s1, p1, rfl⟩ := RV.form _ _ _ hd
      obtain ⟨k2, m2, s2, p2, rfl⟩ := hr.form
      have b0 := cell_of_block hB 0
      have b3 := cell_of_block hB 3
      have f0 := frozen_of_block hB 0
      have f1 := frozen_of_block hB 1
      have f2 := frozen_of_block hB 2
      have f3 := frozen_of_block hB 3
      have f4 := frozen_of_block hB 4
      have x0 := cell_of_block hP 0
      have x1 := cell_of_block hP 1
      have x2 := cell_of_block hP 2
      have x3 := cell_of_block hP 3
      have x4 := cell_of_block hP 4
      simp [rcells] at b0 b3 x0 x1 x2 x3 x4
      have HR := hide hrow
      have HRV := hide hrvs
      have HB := hide hB
      have HP := hide hP
      have HD := hide hd
      have HT := hide hr
      have HBW := hide hb
      have hcl := hrvs.length
      clear hrow hrvs hB hP hd hr hb h15 h25
      have hlen : css.length ≤ 1000 := by rw [hcl]; simp; omega
      have HCL := hide hcl
      clear hcl
      go_wp2_with (at_builtin; refine wpList_append_lies _ rfl (.tmp 8) (.tmp 14) 65 rfl (w.heap.size + 1) 96 i0 zero5 5 48 Tryz.underlying65 HI.out.1 HI.out.2.1 HI.out.2.2.1 HI.out.2.2.2 rfl (by decide) _ css.length (flat css) rfl (HR.out.alloc _) ⟨wr.heap.size, 0, none⟩ 1 1 [.int .i64 k1, .int .i64 m1, .string s1, .pointer p1, .pointer none] rfl rfl (news5 (heap_alloc_new _ _)) (one5 _ _ _ _) (by decide) (by unfold maxLen; omega) (by omega) (by simp; omega) (wr.heap.size + 1) (by simp) ?_)
      intro g cap w1 hown1 hgrow hat hlt1
      have hu1 := items_upd hgrow
      have hvs : ∀ (k : Nat) (c : Array Value), u4.ownBlock = some k → ¬ wr.heap[k]? = some (Obj.cells c 162 (0, 0)) := ownsRow_notPair HR.out (by decide)
      have hB1 := hu1.at HB.out (fun h => by have := (ownsRow_ge HR.out h).1; omega)
      have hP1 := hu1.at HP.out (fun h => hvs _ _ h HP.out)
      have y0 := cell_of_block hB1 0
      have y1 := cell_of_block hB1 1
      have y2 := cell_of_block hB1 2
      have y3 := cell_of_block hB1 3
      have y4 := cell_of_block hB1 4
      have f0 := frozen_of_block hB1 0
      have f1 := frozen_of_block hB1 1
      have f2 := frozen_of_block hB1 2
      have f3 := frozen_of_block hB1 3
      have f4 := frozen_of_block hB1 4
      have x5 := cell_of_block hP1 5
      have x6 := cell_of_block hP1 6
      have x7 := cell_of_block hP1 7
      have x8 := cell_of_block hP1 8
      have x9 := cell_of_block hP1 9
      simp [rcells] at y0 y1 y2 y3 y4 x5 x6 x7 x8 x9
      have HB1 := hide hB1
      have HP1 := hide hP1
      have HU1 := hide hu1
      have HO1 := hide hown1
      have HVS := hide hvs
      clear hB1 hP1 hu1 hown1 hgrow hvs
      go_wp2
      go_roundw
      case rel => exact ⟨k + 1, by omega, items_round hlt HR.out HRV.out HB1.out HD.out HT.out HBW.out hsz HU1.out HO1.out _ rfl⟩
      case measure => rw [ownsRow_len HR.out, HCL.out]; simp [lenOf, HCL.out]; omega
    · rw [List.drop_length] at hch
      have hch : c = rcells 4 0 emptyB none := hch
      subst hch
      have b0 := cell_of_block hB 0
      simp [rcells] at b0
      have HR := hide hrow
      have HRV := hide hrvs
      have HB := hide hb
      clear hrow hrvs hB hb
      go_wp2
      go_quiet (fail)
      go_wp2
      go_ret2
      exact ⟨_, css, rfl, items_end HR.out HRV.out HB.out _ ((Upd.refl _ _).drewN _)⟩

/-- Items, of whatever is read. -/
theorem items_any (n : Nat) (d : D) (cs : Array Value) (w : World) (hv : RV w (n + 1) cs d) :
    Calls Tryz.prog 66 #[.agg cs] w fun e w' => ∃ v css, e = .returned (.tuple #[v, .bool (isList d)]) ∧ Row5 w.heap.size w' v css ∧ RVs w' n css (itemsD d) ∧ Below w.heap.size w w' := by
  match d, hv with
  | .agg l, hv => exact items_list n l cs w hv
  | .lit (.int k m), hv =>
    cases k <;> first | (cases hv; done) | (have h : some _ = some cs := hv; cases h; exact (items_atom _ _ _ _ w rfl).mono fun e w' ⟨he, hb⟩ => ⟨_, [], he, Row5.nil _ _, trivial, hb⟩)
  | .lit (.bool b), hv => have h : some _ = some cs := hv; cases h; exact (items_atom _ _ _ _ w rfl).mono fun e w' ⟨he, hb⟩ => ⟨_, [], he, Row5.nil _ _, trivial, hb⟩
  | .lit (.string b), hv => have h : some _ = some cs := hv; cases h; exact (items_atom _ _ _ _ w rfl).mono fun e w' ⟨he, hb⟩ => ⟨_, [], he, Row5.nil _ _, trivial, hb⟩
  | .lit (.float _ _), hv => cases hv
  | .lit .nil, hv => cases hv
  | .nil, hv => have h : some _ = some cs := hv; cases h; exact (items_atom _ _ _ _ w rfl).mono fun e w' ⟨he, hb⟩ => ⟨_, [], he, Row5.nil _ _, trivial, hb⟩
  | .ptr _, hv => cases hv
  | .slice _ _, hv => cases hv
  | .iface _ _, hv => cases hv
  | .map _, hv => cases hv
  | .held _, hv => cases hv

end Go.Proofs.YtlobegpjenabaaaGreatDoor

/- Facts on the plain functions: data by descent. -/
namespace Go.Proofs.YtlobegpjenabaaaGreatDoor
open Go
set_option linter.unusedSimpArgs false
set_option linter.unusedVariables false

theorem tokN_le : ∀ (l : List UInt8), tokN l ≤ l.length
  | [] => Nat.le_refl _
  | c :: r => by have := tokN_le r; simp only [tokN, List.length_cons]; split <;> omega
theorem tokEnd_le (l : List UInt8) (i : Nat) (h : i ≤ l.length) : tokEnd l i ≤ l.length := by
  have := tokN_le (l.drop i); simp at this; unfold tokEnd; omega
theorem skipB_le' : ∀ (l : List UInt8) (b : Bool), skipB b l ≤ l.length
  | [], b => by simp [skipB]
  | c :: r, false => by
    have h1 := skipB_le' r false; have h2 := skipB_le' r true
    simp only [skipB, List.length_cons]; split
    · omega
    · split <;> omega
  | c :: r, true => by
    have h1 := skipB_le' r false; have h2 := skipB_le' r true
    simp only [skipB, List.length_cons]; split <;> omega
theorem skipTo_le' (l : List UInt8) (i : Nat) (h : i ≤ l.length) : skipTo l i ≤ l.length := by
  have := skipB_le' (l.drop i) false; simp at this; unfold skipTo; omega

/-- A datum takes at least a byte; a list's rest too. -/
theorem rd_adv (l : List UInt8) : ∀ (n op i : Nat) (m : Option (List D)) (d : D) (k : Nat), i ≤ l.length → (m = none → i < l.length) → rd n l op i m = .inr (d, k) → i < k ∧ k ≤ l.length
  | 0, op, i, m, d, k, _, _, h => by simp [rd] at h
  | n + 1, op, i, none, d, k, hi, hm, h => by
    have hi := hm rfl
    simp only [rd] at h
    split at h
    · cases h
    split at h
    · split at h
      · cases h
      · have := rd_adv l n (op + 1) (i + 1) (some []) d k (by omega) (by simp) h; omega
    split at h
    · split at h
      · cases h
      · split at h
        · cases h
        · rename_i hs
          have h1 := skipTo_le' l (i + 1) (by omega)
          have h2 : i + 1 ≤ skipTo l (i + 1) := by unfold skipTo; omega
          split at h
          · cases h
          · rename_i d' k' hr
            cases h
            have := rd_adv l n (op + 1) (skipTo l (i + 1)) none d' k (by omega) (fun _ => by omega) hr; omega
    split at h
    · cases h
    · rename_i ht
      have h1 := tokEnd_le l i (by omega)
      have h2 : i ≤ tokEnd l i := by unfold tokEnd; omega
      split at h
      · cases h
      · cases h; omega
  | n + 1, op, i, some acc, d, k, hi, hm, h => by
    simp only [rd] at h
    have h1 := skipTo_le' l i hi
    have h2 : i ≤ skipTo l i := by unfold skipTo; omega
    split at h
    · cases h
    split at h
    · cases h; omega
    split at h
    · cases h
    · rename_i d' k' hr
      have := rd_adv l n op (skipTo l i) none d' k' (by omega) (fun _ => by omega) hr
      have := rd_adv l n op k' (some (acc ++ [d'])) d k (by omega) (by simp) h
      omega
/-- What is wrong is syntax or nest. -/
theorem rd_err (l : List UInt8) : ∀ (n op i : Nat) (m : Option (List D)) (e : Int) (a : Nat), i ≤ l.length → (m = none → i < l.length) → 2 * (l.length - i) + (if m.isSome then 1 else 0) < n → rd n l op i m = .inl (e, a) → ¬ e = 0
  | 0, op, i, m, e, a, _, _, hn, h => by omega
  | n + 1, op, i, none, e, a, hi, hm, hn, h => by
    have hi := hm rfl
    simp at hn
    simp only [rd] at h
    split at h
    · cases h; omega
    split at h
    · split at h
      · cases h; omega
      · exact rd_err l n (op + 1) (i + 1) (some []) e a (by omega) (by simp) (by simp; omega) h
    split at h
    · split at h
      · cases h; omega
      · split at h
        · cases h; omega
        · rename_i hs
          have h1 := skipTo_le' l (i + 1) (by omega)
          have h2 : i + 1 ≤ skipTo l (i + 1) := by unfold skipTo; omega
          split at h
          · rename_i e' hr
            cases h
            exact rd_err l n (op + 1) (skipTo l (i + 1)) none e a (by omega) (fun _ => by omega) (by simp; omega) hr
          · cases h
    split at h
    · cases h; omega
    · split at h
      · cases h; omega
      · cases h
  | n + 1, op, i, some acc, e, a, hi, hm, hn, h => by
    simp at hn
    simp only [rd] at h
    have h1 := skipTo_le' l i hi
    have h2 : i ≤ skipTo l i := by unfold skipTo; omega
    split at h
    · cases h; omega
    split at h
    · cases h
    split at h
    · rename_i e' hr
      cases h
      exact rd_err l n op (skipTo l i) none e a (by omega) (fun _ => by omega) (by simp; omega) hr
    · rename_i d' k' hr
      have := rd_adv l n op (skipTo l i) none d' k' (by omega) (fun _ => by omega) hr
      exact rd_err l n op k' (some (acc ++ [d'])) e a (by omega) (by simp) (by simp; omega) h
end Go.Proofs.YtlobegpjenabaaaGreatDoor
