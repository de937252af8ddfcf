/- latheref: the cursor's datum, case by case. -/
import Derived.Test.YtlobegpjenabaaaGreatDoorRefSeq
namespace Go.Proofs.YtlobegpjenabaaaGreatDoor
open Go.RowKit
set_option linter.unusedSimpArgs false
set_option linter.unusedVariables false
attribute [local go_sem ↓] Go.wp_at_zero Go.wp_at_succ

theorem rd_c41 (n : Nat) (l : List UInt8) (op i : Nat) (h : (l.getD i 0).toNat = 41) : rd (n + 1) l op i none = .inl (2, i) := by simp only [rd]; rw [if_pos h]
theorem rd_nest (n : Nat) (l : List UInt8) (op i : Nat) (h : (l.getD i 0).toNat = 40 ∨ (l.getD i 0).toNat = 39) (ho : 20 ≤ op) : rd (n + 1) l op i none = .inl (3, i) := by
  simp only [rd]
  rcases h with h | h
  · rw [if_neg (by omega), if_pos h, if_pos ho]
  · rw [if_neg (by omega), if_neg (by omega), if_pos h, if_pos ho]
theorem rd_open (n : Nat) (l : List UInt8) (op i : Nat) (h : (l.getD i 0).toNat = 40) (ho : ¬ 20 ≤ op) : rd (n + 1) l op i none = rd n l (op + 1) (i + 1) (some []) := by
  simp only [rd]; rw [if_neg (by omega), if_pos h, if_neg ho]
theorem rd_q_end (n : Nat) (l : List UInt8) (op i : Nat) (h : (l.getD i 0).toNat = 39) (ho : ¬ 20 ≤ op) (hs : skipTo l (i + 1) = l.length) : rd (n + 1) l op i none = .inl (2, l.length) := by
  simp only [rd]; rw [if_neg (by omega), if_neg (by omega), if_pos h, if_neg ho, if_pos hs]
theorem rd_q_err (n : Nat) (l : List UInt8) (op i : Nat) (h : (l.getD i 0).toNat = 39) (ho : ¬ 20 ≤ op) (hs : ¬ skipTo l (i + 1) = l.length) (e : Int × Nat) (hr : rd n l (op + 1) (skipTo l (i + 1)) none = .inl e) : rd (n + 1) l op i none = .inl e := by
  simp only [rd]; rw [if_neg (by omega), if_neg (by omega), if_pos h, if_neg ho, if_neg hs, hr]
theorem rd_q_ok (n : Nat) (l : List UInt8) (op i : Nat) (h : (l.getD i 0).toNat = 39) (ho : ¬ 20 ≤ op) (hs : ¬ skipTo l (i + 1) = l.length) (d : D) (k : Nat) (hr : rd n l (op + 1) (skipTo l (i + 1)) none = .inr (d, k)) : rd (n + 1) l op i none = .inr (lst [sym qsym, d], k) := by
  simp only [rd]; rw [if_neg (by omega), if_neg (by omega), if_pos h, if_neg ho, if_neg hs, hr]
theorem rd_tok (n : Nat) (l : List UInt8) (op i : Nat) (h1 : ¬ (l.getD i 0).toNat = 41) (h2 : ¬ (l.getD i 0).toNat = 40) (h3 : ¬ (l.getD i 0).toNat = 39) :
    rd (n + 1) l op i none = if tokEnd l i = i then .inl (2, i) else match tokD ((l.drop i).take (tokEnd l i - i)) with | none => .inl (2, i) | some d => .inr (d, tokEnd l i) := by
  simp only [rd]; rw [if_neg h1, if_neg h2, if_neg h3]; rfl

/-- The cells of the new block of a result. -/
abbrev Z5 : Obj := .cells #[.int .i64 0, .int .i64 0, .string ⟨#[]⟩, .pointer none, .pointer none] 96 (0, 0)

/-- What a fault leaves, stored as the result. -/
theorem wrong_fin {s : ByteArray} {C m : Nat} {w w2 : World} {r : Res (D × Nat)} {i e : Int} {p : Nat} (hCl : C < w.heap.size) (hm : 0 < m) (hU : Upd (fun k => k = C) w w2) (hR : w2.heap[w.heap.size]? = some Z5)
    (hC : w2.heap[C]? = some (cur s i e p)) (hr : r = .inl (e, p)) : CurPost s C w m r (.returned (.agg (rcells 0 0 emptyB none))) (set5 w2 w.heap.size (.int .i64 0) (.int .i64 0) (.string emptyB) (.pointer none) (.pointer none)) :=
  cur_fin hCl hU hR hC (RV.zero _ _ hm) (fun er q h => by rw [hr] at h; cases h; exact ⟨rfl, rfl⟩) (fun d k h => by rw [hr] at h; cases h)

set_option maxRecDepth 100000 in
set_option maxHeartbeats 1000000 in
theorem datum_wrong41 (s : ByteArray) (hs : s.size ≤ 1000) (n C op i : Nat) (w : World) (ho : op ≤ 20) (hi : i < s.size) (hC : w.heap[C]? = some (cur s i 0 0)) (hc : s[i].toNat = 41) (hop : 41 = 41 ∨ 20 ≤ op) :
    Calls Tryz.prog 64 #[.pointer (some ⟨C, 0, none⟩), .int .i64 op] w (CurPost s C w (21 - op) (rd (n + 1) s.data.toList op i none)) := by
  have hCl := lt_of_some hC
  have hg := at_getD s i hi
  have hr : rd (n + 1) s.data.toList op i none = .inl (2, i) := by
    first
      | exact rd_c41 _ _ _ _ (by rw [hg]; exact hc)
      | exact rd_nest _ _ _ _ (by rw [hg]; omega) (by omega)
  have HRd := hide hr
  clear hr hg
  have c0 := cell_of_block hC 0
  have c1 := cell_of_block hC 1
  simp at c0 c1
  have b41 : ((s[i].toNat : Int) == 41) = decide (41 = 41) := by rw [Bool.eq_iff_iff]; simp; omega
  have b40 : ((s[i].toNat : Int) == 40) = decide (41 = 40) := by rw [Bool.eq_iff_iff]; simp; omega
  have b39 : ((s[i].toNat : Int) == 39) = decide (41 = 39) := by rw [Bool.eq_iff_iff]; simp; omega
  simp at b41 b40 b39
  have HC := hide hC
  have hcc := hide hc
  clear hC hc
  have hop' : 41 = 41 ∨ (20 : Int) ≤ (op : Int) := by omega
  have hop'' : (20 : Int) ≤ (op : Int) ∨ 41 = 41 := by omega
  simp at hop' hop''
  go_enter Tryz.func64, Tryz.ntmps64
  go_wp2_with fail
  refine (wrong_any s i 0 0 2 i C _ (by exact heap_alloc_lt HC.out)).mono ?_
  rintro e w2 ⟨rfl, hC2, hU2⟩
  have hR2 := hU2.at (heap_alloc_new _ _) (by omega)
  have hUU := ((Upd.refl (fun k => k = C) w).alloc _).trans hU2 (fun _ _ h => h)
  have f0 := frozen_of_block hR2 0
  have f1 := frozen_of_block hR2 1
  have f2 := frozen_of_block hR2 2
  have f3 := frozen_of_block hR2 3
  have f4 := frozen_of_block hR2 4
  have r0 := cell_of_block hR2 0
  have r1 := cell_of_block hR2 1
  have r2 := cell_of_block hR2 2
  have r3 := cell_of_block hR2 3
  have r4 := cell_of_block hR2 4
  simp at r0 r1 r2 r3 r4
  have HR2 := hide hR2
  have HC2 := hide hC2
  have HUU := hide hUU
  clear hR2 hC2 hU2 hUU
  unfold rcells
  go_wp2
  refine ret5 Tryz.results64 rfl (set5_same _ _ _ _ _ HR2.out) rfl ?_
  exact wrong_fin hCl (by omega) HUU.out HR2.out HC2.out HRd.out
set_option maxRecDepth 100000 in
set_option maxHeartbeats 1000000 in
theorem datum_wrong40 (s : ByteArray) (hs : s.size ≤ 1000) (n C op i : Nat) (w : World) (ho : op ≤ 20) (hi : i < s.size) (hC : w.heap[C]? = some (cur s i 0 0)) (hc : s[i].toNat = 40) (hop : 40 = 41 ∨ 20 ≤ op) :
    Calls Tryz.prog 64 #[.pointer (some ⟨C, 0, none⟩), .int .i64 op] w (CurPost s C w (21 - op) (rd (n + 1) s.data.toList op i none)) := by
  have hCl := lt_of_some hC
  have hg := at_getD s i hi
  have hr : rd (n + 1) s.data.toList op i none = .inl (3, i) := by
    first
      | exact rd_c41 _ _ _ _ (by rw [hg]; exact hc)
      | exact rd_nest _ _ _ _ (by rw [hg]; omega) (by omega)
  have HRd := hide hr
  clear hr hg
  have c0 := cell_of_block hC 0
  have c1 := cell_of_block hC 1
  simp at c0 c1
  have b41 : ((s[i].toNat : Int) == 41) = decide (40 = 41) := by rw [Bool.eq_iff_iff]; simp; omega
  have b40 : ((s[i].toNat : Int) == 40) = decide (40 = 40) := by rw [Bool.eq_iff_iff]; simp; omega
  have b39 : ((s[i].toNat : Int) == 39) = decide (40 = 39) := by rw [Bool.eq_iff_iff]; simp; omega
  simp at b41 b40 b39
  have HC := hide hC
  have hcc := hide hc
  clear hC hc
  have hop' : 40 = 41 ∨ (20 : Int) ≤ (op : Int) := by omega
  have hop'' : (20 : Int) ≤ (op : Int) ∨ 40 = 41 := by omega
  simp at hop' hop''
  go_enter Tryz.func64, Tryz.ntmps64
  go_wp2_with fail
  refine (wrong_any s i 0 0 3 i C _ (by exact heap_alloc_lt HC.out)).mono ?_
  rintro e w2 ⟨rfl, hC2, hU2⟩
  have hR2 := hU2.at (heap_alloc_new _ _) (by omega)
  have hUU := ((Upd.refl (fun k => k = C) w).alloc _).trans hU2 (fun _ _ h => h)
  have f0 := frozen_of_block hR2 0
  have f1 := frozen_of_block hR2 1
  have f2 := frozen_of_block hR2 2
  have f3 := frozen_of_block hR2 3
  have f4 := frozen_of_block hR2 4
  have r0 := cell_of_block hR2 0
  have r1 := cell_of_block hR2 1
  have r2 := cell_of_block hR2 2
  have r3 := cell_of_block hR2 3
  have r4 := cell_of_block hR2 4
  simp at r0 r1 r2 r3 r4
  have HR2 := hide hR2
  have HC2 := hide hC2
  have HUU := hide hUU
  clear hR2 hC2 hU2 hUU
  unfold rcells
  go_wp2
  refine ret5 Tryz.results64 rfl (set5_same _ _ _ _ _ HR2.out) rfl ?_
  exact wrong_fin hCl (by omega) HUU.out HR2.out HC2.out HRd.out
set_option maxRecDepth 100000 in
set_option maxHeartbeats 1000000 in
theorem datum_wrong39 (s : ByteArray) (hs : s.size ≤ 1000) (n C op i : Nat) (w : World) (ho : op ≤ 20) (hi : i < s.size) (hC : w.heap[C]? = some (cur s i 0 0)) (hc : s[i].toNat = 39) (hop : 39 = 41 ∨ 20 ≤ op) :
    Calls Tryz.prog 64 #[.pointer (some ⟨C, 0, none⟩), .int .i64 op] w (CurPost s C w (21 - op) (rd (n + 1) s.data.toList op i none)) := by
  have hCl := lt_of_some hC
  have hg := at_getD s i hi
  have hr : rd (n + 1) s.data.toList op i none = .inl (3, i) := by
    first
      | exact rd_c41 _ _ _ _ (by rw [hg]; exact hc)
      | exact rd_nest _ _ _ _ (by rw [hg]; omega) (by omega)
  have HRd := hide hr
  clear hr hg
  have c0 := cell_of_block hC 0
  have c1 := cell_of_block hC 1
  simp at c0 c1
  have b41 : ((s[i].toNat : Int) == 41) = decide (39 = 41) := by rw [Bool.eq_iff_iff]; simp; omega
  have b40 : ((s[i].toNat : Int) == 40) = decide (39 = 40) := by rw [Bool.eq_iff_iff]; simp; omega
  have b39 : ((s[i].toNat : Int) == 39) = decide (39 = 39) := by rw [Bool.eq_iff_iff]; simp; omega
  simp at b41 b40 b39
  have HC := hide hC
  have hcc := hide hc
  clear hC hc
  have hop' : 39 = 41 ∨ (20 : Int) ≤ (op : Int) := by omega
  have hop'' : (20 : Int) ≤ (op : Int) ∨ 39 = 41 := by omega
  simp at hop' hop''
  go_enter Tryz.func64, Tryz.ntmps64
  go_wp2_with fail
  refine (wrong_any s i 0 0 3 i C _ (by exact heap_alloc_lt HC.out)).mono ?_
  rintro e w2 ⟨rfl, hC2, hU2⟩
  have hR2 := hU2.at (heap_alloc_new _ _) (by omega)
  have hUU := ((Upd.refl (fun k => k = C) w).alloc _).trans hU2 (fun _ _ h => h)
  have f0 := frozen_of_block hR2 0
  have f1 := frozen_of_block hR2 1
  have f2 := frozen_of_block hR2 2
  have f3 := frozen_of_block hR2 3
  have f4 := frozen_of_block hR2 4
  have r0 := cell_of_block hR2 0
  have r1 := cell_of_block hR2 1
  have r2 := cell_of_block hR2 2
  have r3 := cell_of_block hR2 3
  have r4 := cell_of_block hR2 4
  simp at r0 r1 r2 r3 r4
  have HR2 := hide hR2
  have HC2 := hide hC2
  have HUU := hide hUU
  clear hR2 hC2 hU2 hUU
  unfold rcells
  go_wp2
  refine ret5 Tryz.results64 rfl (set5_same _ _ _ _ _ HR2.out) rfl ?_
  exact wrong_fin hCl (by omega) HUU.out HR2.out HC2.out HRd.out

set_option maxRecDepth 100000 in
set_option maxHeartbeats 1000000 in
theorem datum_open (s : ByteArray) (hs : s.size ≤ 1000) (n C op i : Nat) (w : World) (HL : ListAt s n) (ho : op < 20) (hi : i < s.size) (hC : w.heap[C]? = some (cur s i 0 0)) (hc : s[i].toNat = 40) (hn : 2 * (s.size - i) < n + 1) :
    Calls Tryz.prog 64 #[.pointer (some ⟨C, 0, none⟩), .int .i64 op] w (CurPost s C w (21 - op) (rd (n + 1) s.data.toList op i none)) := by
  have hCl := lt_of_some hC
  have hg := at_getD s i hi
  have HRd := hide (rd_open n s.data.toList op i (by rw [hg]; exact hc) (by omega))
  clear hg
  have HLL := hide HL
  clear HL
  have c0 := cell_of_block hC 0
  have c1 := cell_of_block hC 1
  have f1 := frozen_of_block hC 1
  simp at c0 c1
  have b41 : ((s[i].toNat : Int) == 41) = false := by rw [beq_eq_false_iff_ne]; omega
  have b40 : ((s[i].toNat : Int) == 40) = true := by rw [beq_iff_eq]; omega
  have HC := hide hC
  clear hC hc
  have hop : (op : Int) < 20 := by omega
  go_enter Tryz.func64, Tryz.ntmps64
  go_wp2_with fail
  have hC1 : ((w.setCell ⟨C, 1, none⟩ (.int .i64 ((i : Int) + 1))).alloc Z5).heap[C]? = some (cur s ((i + 1 : Nat) : Int) 0 0) := heap_alloc_lt (heap_setCell_same HC.out)
  have e1 : ((op : Int) + 1) = ((op + 1 : Nat) : Int) := by omega
  rw [e1]
  refine (HLL.out C (op + 1) (i + 1) _ (by omega) (by omega) (by omega) (by exact hC1) (by omega)).mono ?_
  rintro e w2 ⟨cs, g, rfl, hRV2, hU2, i2, e2, a2, hC2, hin1, hin2⟩
  obtain ⟨k0, m0, s0, p0, rfl⟩ := RV.form _ _ _ hRV2
  have hUU := (((Upd.refl (fun k => k = C) w).setCell ⟨C, 1, none⟩ _ (fun _ => rfl)).alloc _).trans hU2 (fun _ _ h => h)
  have hR1 : ((w.setCell ⟨C, 1, none⟩ (.int .i64 ((i : Int) + 1))).alloc Z5).heap[w.heap.size]? = some Z5 := by
    have := heap_alloc_new (w.setCell ⟨C, 1, none⟩ (.int .i64 ((i : Int) + 1))) Z5
    simpa [World.setCell] using this
  have hR2 := hU2.at hR1 (by omega)
  have f0 := frozen_of_block hR2 0
  have f1 := frozen_of_block hR2 1
  have f2 := frozen_of_block hR2 2
  have f3 := frozen_of_block hR2 3
  have f4 := frozen_of_block hR2 4
  have r0 := cell_of_block hR2 0
  have r1 := cell_of_block hR2 1
  have r2 := cell_of_block hR2 2
  have r3 := cell_of_block hR2 3
  have r4 := cell_of_block hR2 4
  simp at r0 r1 r2 r3 r4
  have HR2 := hide hR2
  have HC2 := hide hC2
  have HUU := hide hUU
  have HRV2 := hide hRV2
  have HIN := hide (And.intro hin1 hin2)
  clear hR2 hC2 hU2 hUU hR1 hC1 hRV2 hin1 hin2 e1
  unfold rcells
  go_wp2
  refine ret5 Tryz.results64 rfl (set5_same _ _ _ _ _ HR2.out) rfl ?_
  exact cur_fin (g := g) hCl HUU.out HR2.out HC2.out (by have := HRV2.out; rw [show 22 - (op + 1) = 21 - op from by omega] at this; exact this) (by rw [HRd.out]; exact HIN.out.1) (by rw [HRd.out]; exact HIN.out.2)
end Go.Proofs.YtlobegpjenabaaaGreatDoor
