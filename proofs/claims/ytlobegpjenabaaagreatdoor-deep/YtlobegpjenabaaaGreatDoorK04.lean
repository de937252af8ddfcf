/- latheref: the cursor's list. -/
import Derived.Test.YtlobegpjenabaaaGreatDoorK03
import Derived.Deep.RegionWith
import Derived.Deep.DrawnRows
import Derived.Deep.DeepCutAuto
namespace Go.Proofs.YtlobegpjenabaaaGreatDoor
open Go.RowKit
set_option linter.unusedSimpArgs false
set_option linter.unusedVariables false
attribute [local go_sem ↓] Go.wp_at_zero Go.wp_at_succ

/-- What a call of datum or list comes to; r: the plain function's answer; m: more than the datum is deep. -/
def CurPost (s : ByteArray) (C : Nat) (w : World) (m : Nat) (r : Res (D × Nat)) (e : Ending) (w' : World) : Prop :=
  ∃ cs g, e = .returned (.agg cs) ∧ RV w' m cs g ∧ Upd (fun k => k = C) w w' ∧ ∃ i' : Int, ∃ e' : Int, ∃ a' : Int, w'.heap[C]? = some (cur s i' e' a') ∧
    (∀ er p, r = .inl (er, p) → e' = er ∧ a' = p) ∧ (∀ d k, r = .inr (d, k) → e' = 0 ∧ a' = 0 ∧ i' = k ∧ g = d)

/-- datum, with so much fuel of the plain function. -/
def DatumAt (s : ByteArray) (n : Nat) : Prop := ∀ (C op i : Nat) (w : World), op ≤ 20 → i < s.size → w.heap[C]? = some (cur s i 0 0) → 2 * (s.size - i) < n →
  Calls Tryz.prog 64 #[.pointer (some ⟨C, 0, none⟩), .int .i64 op] w (CurPost s C w (21 - op) (rd n s.data.toList op i none))
def ListAt (s : ByteArray) (n : Nat) : Prop := ∀ (C op i : Nat) (w : World), 1 ≤ op → op ≤ 20 → i ≤ s.size → w.heap[C]? = some (cur s i 0 0) → 2 * (s.size - i) + 1 < n →
  Calls Tryz.prog 105 #[.pointer (some ⟨C, 0, none⟩), .int .i64 op] w (CurPost s C w (22 - op) (rd n s.data.toList op i (some [])))

/-- The cursor's place, in memory. -/
def curI (C : Nat) (w : World) : Nat := match w.cell? ⟨C, 1, none⟩ with | some (.int _ i) => i.toNat | _ => 0
theorem curI_of {s : ByteArray} {C : Nat} {w : World} {i e a : Int} (h : w.heap[C]? = some (cur s i e a)) : curI C w = i.toNat := by
  have := cell_of_block (o := 1) h
  unfold curI; rw [this]; rfl
theorem at_getD (s : ByteArray) (k : Nat) (h : k < s.size) : s.data.toList.getD k 0 = s[k] := by
  rw [List.getD_eq_getElem?_getD, List.getElem?_eq_getElem (by simpa using h)]; rfl

/-- What stands in the walk of list at a round's head. -/
def SeqRel (s : ByteArray) (C op N : Nat) (w : World) (R : Res (D × Nat)) (v : Value) (wr : World) (n i : Nat) (acc : List D) (css : List (Array Value)) : Prop :=
  n ≤ N ∧ i ≤ s.size ∧ 2 * (s.size - i) + 1 < n ∧ rd n s.data.toList op i (some acc) = R ∧ acc.length ≤ i ∧ wr.heap[C]? = some (cur s i 0 0) ∧ Row5 (w.heap.size + 1) wr v css ∧ RVs wr (21 - op) css acc ∧
    wr.heap[w.heap.size]? = some (Obj.cells #[.int .i64 0, .int .i64 0, .string ⟨#[]⟩, .pointer none, .pointer none] 96 (0, 0)) ∧ Upd (fun k => k = C) w wr ∧ w.heap.size + 1 ≤ wr.heap.size

/-- The result is stored, in a block that the call has made. -/
theorem cur_fin {s : ByteArray} {C m : Nat} {w W1 : World} {r : Res (D × Nat)} {k0 m0 : Int} {s0 : ByteArray} {p0 : Option Addr} {g : D} {z : Array Value} {i' e' a' : Int} (hCl : C < w.heap.size) (hU : Upd (fun k => k = C) w W1)
    (hR : W1.heap[w.heap.size]? = some (Obj.cells z 96 (0, 0))) (hC : W1.heap[C]? = some (cur s i' e' a')) (hg : RV W1 m (rcells k0 m0 s0 p0) g)
    (h1 : ∀ er p, r = .inl (er, p) → e' = er ∧ a' = (p : Int)) (h2 : ∀ d k, r = .inr (d, k) → e' = 0 ∧ a' = 0 ∧ i' = (k : Int) ∧ g = d) :
    CurPost s C w m r (.returned (.agg (rcells k0 m0 s0 p0))) (set5 W1 w.heap.size (.int .i64 k0) (.int .i64 m0) (.string s0) (.pointer p0) (.pointer none)) := by
  have hu := set5_upd W1 w.heap.size (.int .i64 k0) (.int .i64 m0) (.string s0) (.pointer p0) (.pointer none)
  have hk : Keep 162 W1 (set5 W1 w.heap.size (.int .i64 k0) (.int .i64 m0) (.string s0) (.pointer p0) (.pointer none)) := Keep.of_upd hu (by intro k c hk; subst hk; rw [hR]; simp)
  exact ⟨_, g, rfl, RV.keep hk _ _ _ hg, hU.trans hu (by intro j hj hx; omega), i', e', a', hu.at hC (by omega), h1, h2⟩
theorem CurPost.grow {s : ByteArray} {C m : Nat} {w W W' : World} {r : Res (D × Nat)} {e : Ending} (h : CurPost s C w m r e W) (hu : Upd (fun _ => False) W W') : CurPost s C w m r e W' := by
  obtain ⟨cs, g, he, hg, hU, i', e', a', hC, h1, h2⟩ := h
  exact ⟨cs, g, he, RV.keep (Keep.of_upd hu (fun _ _ h => h.elim)) _ _ _ hg, hU.trans hu (fun _ _ h => h.elim), i', e', a', hu.at hC (fun h => h), h1, h2⟩
theorem Upd.alloc0 (w : World) (o : Obj) : Upd (fun _ => False) w (w.alloc o) := (Upd.refl _ w).alloc o
theorem rd_end (n : Nat) (l : List UInt8) (op i : Nat) (acc : List D) (h : skipTo l i = l.length) : rd (n + 1) l op i (some acc) = .inl (2, l.length) := by simp only [rd]; rw [if_pos h]
theorem rd_close (n : Nat) (l : List UInt8) (op i : Nat) (acc : List D) (h : ¬ skipTo l i = l.length) (h2 : (l.getD (skipTo l i) 0).toNat = 41) : rd (n + 1) l op i (some acc) = .inr (lst acc, skipTo l i + 1) := by simp only [rd]; rw [if_neg h, if_pos h2]
theorem rd_item_err (n : Nat) (l : List UInt8) (op i : Nat) (acc : List D) (h : ¬ skipTo l i = l.length) (h2 : ¬ (l.getD (skipTo l i) 0).toNat = 41) (e : Int × Nat) (h3 : rd n l op (skipTo l i) none = .inl e) :
    rd (n + 1) l op i (some acc) = .inl e := by simp only [rd]; rw [if_neg h, if_neg h2, h3]
theorem rd_item_ok (n : Nat) (l : List UInt8) (op i : Nat) (acc : List D) (h : ¬ skipTo l i = l.length) (h2 : ¬ (l.getD (skipTo l i) 0).toNat = 41) (d : D) (k : Nat) (h3 : rd n l op (skipTo l i) none = .inr (d, k)) :
    rd (n + 1) l op i (some acc) = rd n l op k (some (acc ++ [d])) := by simp only [rd]; rw [if_neg h, if_neg h2, h3]
/-- A function's one result, that lies in memory, is handed back. -/
theorem ret5 {fn : Func} {R : Ending → World → Prop} {a : Act} {W : World} {B p : Nat} {k m : Int} {s : ByteArray} {q r : Option Addr} {fz : Nat × Nat} (hr : fn.results = #[.cell p 96]) (hp : a.tmps.getD p undef = .pointer (some ⟨B, 0, none⟩))
    (h : W.heap[B]? = some (Obj.cells #[.int .i64 k, .int .i64 m, .string s, .pointer q, .pointer r] 96 fz)) (hd : a.defers = []) (hR : R (.returned (.agg #[.int .i64 k, .int .i64 m, .string s, .pointer q, .pointer r])) W) : bodyPost Tryz.prog fn R .ret a W := by
  have r0 := cell_of_block h 0
  have r1 := cell_of_block h 1
  have r2 := cell_of_block h 2
  have r3 := cell_of_block h 3
  have r4 := cell_of_block h 4
  simp at r0 r1 r2 r3 r4
  refine bodyPost_ret (v := .agg #[.int .i64 k, .int .i64 m, .string s, .pointer q, .pointer r]) ?_ hd hR
  have hp' : a.tmps[p]?.getD undef = .pointer (some ⟨B, 0, none⟩) := by simpa using hp
  simp [results, hr, hp', go_sem, r0, r1, r2, r3, r4]
theorem row_keep {B C : Nat} {w w' : World} {v : Value} {css : List (Array Value)} (h : Row5 B w v css) (hu : Upd (fun k => k = C) w w') (hC : C < B) : Row5 B w' v css :=
  ownsRow_of_upd h hu (fun g hg => by have := (ownsRow_ge h hg).1; omega)
theorem cur_keep {C : Nat} {w w' : World} {s : ByteArray} {i e a : Int} (hc : w.heap[C]? = some (cur s i e a)) (hu : Upd (fun k => k = C) w w') : Keep 162 w w' :=
  Keep.of_upd hu (by intro k c hk; subst hk; rw [hc]; simp [cur])
theorem RV.zero (w : World) (n : Nat) (h : 0 < n) : RV w n (rcells 0 0 emptyB none) .nil := by
  obtain ⟨m, rfl⟩ : ∃ m, n = m + 1 := ⟨n - 1, by omega⟩
  rfl

theorem heap_alloc_new1 (w : World) (o o' : Obj) : ((w.alloc o).alloc o').heap[w.heap.size + 1]? = some o' := by
  have := heap_alloc_new (w.alloc o) o'
  simpa using this
theorem seq_upd {w w1 : World} {o o' : Obj} {row : Option Nat} (h : ((w.alloc o).alloc o').grownBy w1 row) : Upd (fun k => row = some k) w w1 := Upd.grown (((Upd.refl _ w).alloc o).alloc o') h (fun k hk _ => hk)

theorem seq_cur {s : ByteArray} {C B : Nat} {w2 w3 : World} {v : Value} {css : List (Array Value)} {i e a : Int} (hCl : C < B) (hrow : Row5 (B + 1) w2 v css) (hu : Upd (fun k => v.ownBlock = some k) w2 w3) (hC : w2.heap[C]? = some (cur s i e a)) : w3.heap[C]? = some (cur s i e a) :=
  hu.at hC (fun h => by have := (ownsRow_ge hrow h).1; omega)
theorem seq_round {s : ByteArray} {C op N n i k : Nat} {w wr w2 w3 : World} {R : Res (D × Nat)} {v v' : Value} {acc : List D} {css : List (Array Value)} {g : D} {k0 m0 : Int} {s0 : ByteArray} {p0 : Option Addr} {e a : Int}
    (hCl : C < w.heap.size) (h1 : n ≤ N) (h2 : k ≤ s.size) (h3 : 2 * (s.size - k) + 1 < n) (h4 : rd n s.data.toList op k (some (acc ++ [g])) = R) (h5 : acc.length + 1 ≤ k) (hU : Upd (fun j => j = C) w wr)
    (hCr : wr.heap[C]? = some (cur s i e a)) (hrow : Row5 (w.heap.size + 1) wr v css) (hrv : RVs wr (21 - op) css acc) (hUW : Upd (fun j => j = C) wr w2) (hC2 : w2.heap[C]? = some (cur s k 0 0))
    (hR2 : w2.heap[w.heap.size]? = some (Obj.cells #[.int .i64 0, .int .i64 0, .string ⟨#[]⟩, .pointer none, .pointer none] 96 (0, 0))) (hg : RV w2 (21 - op) (rcells k0 m0 s0 p0) g) (hsz : w.heap.size + 1 ≤ wr.heap.size)
    (hu3 : Upd (fun j => v.ownBlock = some j) w2 w3) (ho : w3.ownsRow (w.heap.size + 1) 96 5 v' (css.length + 1) (flat css ++ [.int .i64 k0, .int .i64 m0, .string s0, .pointer p0, .pointer none])) :
    SeqRel s C op N w R v' w3 n k (acc ++ [g]) (css ++ [rcells k0 m0 s0 p0]) := by
  have hrow2 : Row5 (w.heap.size + 1) w2 v css := row_keep hrow hUW (by omega)
  have hk3 : Keep 162 w2 w3 := Keep.of_upd hu3 (ownsRow_notPair hrow2 (by decide))
  have hkk := (cur_keep hCr hUW).trans hk3
  refine ⟨h1, h2, h3, h4, by simpa using h5, seq_cur hCl hrow2 hu3 hC2, ?_, ?_, ?_, ?_, ?_⟩
  · unfold Row5; rw [flat_snoc, List.length_append]; exact ho
  · exact RVs.append (RVs.keep hkk _ _ _ hrv) ⟨rfl, RV.keep hk3 _ _ _ hg, trivial⟩
  · exact hu3.at hR2 (fun h => by have := (ownsRow_ge hrow2 h).1; omega)
  · exact (hU.trans hUW (fun _ _ h => h)).trans hu3 (fun j hj h => by have := (ownsRow_ge hrow2 h).1; omega)
  · have := hUW.size; have := hu3.size; omega
theorem seq_start {s : ByteArray} {C op N i : Nat} {w : World} (h2 : i ≤ s.size) (h3 : 2 * (s.size - i) + 1 < N) (hC : w.heap[C]? = some (cur s i 0 0)) :
    SeqRel s C op N w (rd N s.data.toList op i (some [])) (.slice none 0 0) (w.alloc (.cells #[.int .i64 0, .int .i64 0, .string ⟨#[]⟩, .pointer none, .pointer none] 96)) N i [] [] :=
  ⟨Nat.le_refl _, h2, h3, rfl, Nat.zero_le _, heap_alloc_lt hC, Row5.nil _ _, trivial, heap_alloc_new _ _, (Upd.refl _ w).alloc _, by simp⟩

set_option maxRecDepth 100000 in
set_option maxHeartbeats 1000000 in
theorem list_at (s : ByteArray) (hs : s.size ≤ 1000) (N : Nat) (HD : ∀ n, n < N → DatumAt s n) : ListAt s N := by
  intro C op i w ho1 ho2 hi hC hn
  have HDat := hide HD
  clear HD
  have hCl := lt_of_some hC
  obtain ⟨i0, hinf, hz0, hz1, hz2⟩ := info_parts infoV
  have HI := hide (And.intro hinf (And.intro hz0 (And.intro hz1 hz2)))
  clear hinf hz0 hz1 hz2
  have HC := hide hC
  clear hC
  go_enter Tryz.func105, Tryz.ntmps105
  go_wp2
  go_loopw [5] (fun v wr => ∃ n i' acc css, SeqRel s C op N w (rd N s.data.toList op i (some [])) v wr n i' acc css) (fun _ wr => s.size - curI C wr)
  case atStart => exact ⟨N, i, [], [], seq_start hi hn HC.out⟩
  case round =>
    obtain ⟨n, i', acc, css, hnN, hi', hfu, hrd, hal, hCr, hrow, hrvs, hR0, hupd, hsz⟩ := hrel
    obtain ⟨n, rfl⟩ : ∃ m, n = m + 1 := ⟨n - 1, by omega⟩
    have c0 := cell_of_block hCr 0
    have c1 := cell_of_block hCr 1
    have f1 := frozen_of_block hCr 1
    simp at c0 c1
    have HCr := hide hCr
    have HRow := hide hrow
    have HRv := hide hrvs
    have HR0 := hide hR0
    have HU := hide hupd
    have HRd := hide hrd
    clear hCr hrow hrvs hR0 hupd hrd
    go_wp2_with fail
    go_cut [] (fun wc => wc.heap[C]? = some (cur s (skipTo s.data.toList i') 0 0) ∧ Upd (fun k => k = C) wr wc)
    case first =>
      go_region_with (go_at_call 63; refine (skip_any s i' _ ?_ ?_).mono ?_; omega; omega; rintro e w' ⟨rfl, rfl⟩)
      all_goals
        go_wp2
        go_meet
        case rel => exact ⟨heap_setCell_same HCr.out, ((Upd.refl (fun k => k = C) wr).setCell ⟨C, 1, none⟩ _ (fun _ => rfl)).drew⟩
    case rest =>
      obtain ⟨hC1, hU1⟩ := hcut
      have hj1 := skipTo_le s.data.toList i' (by simpa using hi')
      have hj2 := le_skipTo s.data.toList i'
      have HJ : Hid (∃ j, skipTo s.data.toList i' = j) := ⟨_, rfl⟩
      obtain ⟨j, hj⟩ := HJ.out
      rw [hj] at hC1 hj1 hj2
      have Hj := hide hj
      clear hj HJ
      simp at hj1
      have c0 := cell_of_block hC1 0
      have c1 := cell_of_block hC1 1
      simp at c0 c1
      have HC1 := hide hC1
      have HU1 := hide hU1
      clear hC1 hU1
      by_cases hje : j = s.size
      · have Hje := hide hje
        have bje : ((j : Int) == (s.size : Int)) = true := by rw [beq_iff_eq]; omega
        clear hje
        go_wp2_with fail
        go_quiet (fail)
        go_wp2_with fail
        refine (wrong_any s j 0 0 2 j C _ (by exact HC1.out)).mono ?_
        rintro e w2 ⟨rfl, hC2, hU2⟩
        have hR2 := hU2.at (HU1.out.at HR0.out (by omega)) (by omega)
        have f0 := frozen_of_block hR2 0
        have f1 := frozen_of_block hR2 1
        have f2 := frozen_of_block hR2 2
        have f3 := frozen_of_block hR2 3
        have f4 := frozen_of_block hR2 4
        have r0 := cell_of_block hR2 0
        have r1 := cell_of_block hR2 1
        have r2 := cell_of_block hR2 2
        have r3 := cell_of_block hR2 3
        have r4 := cell_of_block hR2 4
        simp at r0 r1 r2 r3 r4
        have HR2 := hide hR2
        have HC2 := hide hC2
        have HU2 := hide hU2
        clear hR2 hC2 hU2
        unfold rcells
        go_wp2
        refine ret5 Tryz.results105 rfl (set5_same _ _ _ _ _ HR2.out) rfl ?_
        have hUU := (HU.out.trans (HU1.out.drewN _) (fun _ _ h => h)).trans HU2.out (fun _ _ h => h)
        refine cur_fin hCl hUU HR2.out HC2.out (RV.zero _ _ (by omega)) ?_ ?_
        · intro er p h
          rw [← HRd.out, rd_end _ _ _ _ _ (by rw [Hj.out, Hje.out]; simp)] at h
          cases h; exact ⟨rfl, by rw [Hje.out]; simp⟩
        · intro d k h
          rw [← HRd.out, rd_end _ _ _ _ _ (by rw [Hj.out, Hje.out]; simp)] at h
          cases h
      · have hjs : j < s.size := by omega
        have bje : ((j : Int) == (s.size : Int)) = false := by rw [beq_eq_false_iff_ne]; omega
        have hjs2 : (j : Int) < (s.size : Int) := by omega
        have hjs0 : (0 : Int) ≤ (j : Int) := by omega
        have Hne : Hid (¬ skipTo s.data.toList i' = s.data.toList.length) := by show ¬ _; rw [Hj.out]; simpa using hje
        clear hje
        by_cases h41 : s[j].toNat = 41
        · have b41 : ((s[j].toNat : Int) == 41) = true := by rw [beq_iff_eq]; omega
          have H41 : Hid ((s.data.toList.getD (skipTo s.data.toList i') 0).toNat = 41) := by show _ = _; rw [Hj.out, at_getD s j hjs]; exact h41
          clear h41
          have f1 := frozen_of_block HC1.out 1
          go_wp2_with fail
          go_quiet (fail)
          go_wp2_with fail
          go_quiet (fail)
          go_wp2_with fail
          refine (list_any (21 - op) css acc _ _ (w.heap.size + 1) (by exact row_keep HRow.out ((HU1.out.drewN _).setCell ⟨C, 1, none⟩ _ (fun _ => rfl)) (by omega))
            (by exact RVs.keep (cur_keep HCr.out ((HU1.out.drewN _).setCell ⟨C, 1, none⟩ _ (fun _ => rfl))) _ _ _ HRv.out) (by omega)).mono ?_
          rintro e w2 ⟨cs, _, rfl, hRV2, hB2⟩
          obtain ⟨k0, m0, s0, p0, rfl⟩ := RV.form _ _ _ hRV2
          have hUW := Upd.trans ((HU1.out.drewN _).setCell ⟨C, 1, none⟩ _ (fun _ => rfl)) (Upd.of_below (fun k => k = C) hB2) (fun _ _ h => h)
          have hC2 : w2.heap[C]? = some (cur s (j + 1) 0 0) := (Upd.of_below (fun _ => False) hB2).at (heap_setCell_same HC1.out) (fun h => h)
          have hR2 := hUW.at HR0.out (by omega)
          have f0 := frozen_of_block hR2 0
          have f1 := frozen_of_block hR2 1
          have f2 := frozen_of_block hR2 2
          have f3 := frozen_of_block hR2 3
          have f4 := frozen_of_block hR2 4
          have r0 := cell_of_block hR2 0
          have r1 := cell_of_block hR2 1
          have r2 := cell_of_block hR2 2
          have r3 := cell_of_block hR2 3
          have r4 := cell_of_block hR2 4
          simp at r0 r1 r2 r3 r4
          have HR2 := hide hR2
          have HC2 := hide hC2
          have HUW := hide hUW
          have HRV2 := hide hRV2
          clear hR2 hC2 hUW hRV2 hB2
          unfold rcells
          go_wp2
          refine ret5 Tryz.results105 rfl (set5_same _ _ _ _ _ HR2.out) rfl ?_
          refine cur_fin (g := .agg acc) hCl (HU.out.trans HUW.out (fun _ _ h => h)) HR2.out HC2.out (by have := HRV2.out; rw [show 21 - op + 1 = 22 - op from by omega] at this; exact this) ?_ ?_
          · intro er p h
            rw [← HRd.out, rd_close _ _ _ _ _ Hne.out H41.out] at h
            cases h
          · intro d k h
            rw [← HRd.out, rd_close _ _ _ _ _ Hne.out H41.out, Hj.out] at h
            cases h; exact ⟨rfl, rfl, by omega, rfl⟩
        · have b41 : ((s[j].toNat : Int) == 41) = false := by rw [beq_eq_false_iff_ne]; omega
          have H41 : Hid (¬ (s.data.toList.getD (skipTo s.data.toList i') 0).toNat = 41) := by show ¬ _; rw [Hj.out, at_getD s j hjs]; exact h41
          clear h41
          go_wp2_with fail
          go_quiet (fail)
          go_wp2_with fail
          go_quiet (fail)
          go_wp2_with fail
          refine (HDat.out n (by omega) C op j _ ho2 hjs (by exact HC1.out) (by omega)).mono ?_
          rintro e w2 ⟨cs, g, rfl, hRV2, hU2, i2, e2, a2, hC2, hin1, hin2⟩
          obtain ⟨k0, m0, s0, p0, rfl⟩ := RV.form _ _ _ hRV2
          have hUW := Upd.trans (HU1.out.drewN _) hU2 (fun _ _ h => h)
          have hR2 := hUW.at HR0.out (by omega)
          have hsz2 := hUW.size
          have e2c := cell_of_block hC2 2
          simp at e2c
          have hCl2 := lt_of_some hC2
          cases hrd : rd n s.data.toList op j none with
          | inl ep =>
            obtain ⟨er, pp⟩ := ep
            obtain ⟨rfl, rfl⟩ := hin1 er pp hrd
            have hne0 := rd_err s.data.toList n op j none e2 pp (by simp; omega) (fun _ => by simpa using hjs) (by simp; omega) hrd
            have bne0 : (e2 != 0) = true := by rw [bne_iff_ne]; exact hne0
            have f0 := frozen_of_block hR2 0
            have f1 := frozen_of_block hR2 1
            have f2 := frozen_of_block hR2 2
            have f3 := frozen_of_block hR2 3
            have f4 := frozen_of_block hR2 4
            have r0 := cell_of_block hR2 0
            have r1 := cell_of_block hR2 1
            have r2 := cell_of_block hR2 2
            have r3 := cell_of_block hR2 3
            have r4 := cell_of_block hR2 4
            simp at r0 r1 r2 r3 r4
            have hlt2 : w.heap.size < w2.heap.size := by omega
            have HR2 := hide hR2
            have HC2 := hide hC2
            have HUW := hide hUW
            have HRV2 := hide hRV2
            have HRD := hide hrd
            clear hR2 hC2 hUW hRV2 hU2 hin1 hin2 hrd hne0
            unfold rcells
            go_wp2
            refine ret5 Tryz.results105 rfl (heap_alloc_lt (set5_same _ _ _ _ _ HR2.out)) rfl ?_
            refine CurPost.grow (cur_fin (g := g) (m := 22 - op) hCl (HU.out.trans HUW.out (fun _ _ h => h)) HR2.out HC2.out (by rw [show 22 - op = 21 - op + 1 from by omega]; exact RV.up _ _ _ HRV2.out) ?_ ?_) (Upd.alloc0 _ _)
            · intro er p h
              rw [← HRd.out, rd_item_err _ _ _ _ _ Hne.out H41.out _ (by rw [Hj.out]; exact HRD.out)] at h
              cases h; exact ⟨rfl, rfl⟩
            · intro d k h
              rw [← HRd.out, rd_item_err _ _ _ _ _ Hne.out H41.out _ (by rw [Hj.out]; exact HRD.out)] at h
              cases h
          | inr dk =>
            obtain ⟨d, k⟩ := dk
            obtain ⟨rfl, rfl, rfl, rfl⟩ := hin2 d k hrd
            have hadv := rd_adv s.data.toList n op j none g k (by simp; omega) (fun _ => by simpa using hjs) hrd
            simp only [len_eq] at hadv
            have hcl := HRv.out.length
            have hlen : css.length ≤ 1000 := by omega
            have hrow2 : Row5 (w.heap.size + 1) w2 u5 css := row_keep HRow.out hUW (by omega)
            have HRow2 := hide hrow2
            have HR2 := hide hR2
            have HC2 := hide hC2
            have HUW := hide hUW
            have HRV2 := hide hRV2
            have HRD := hide hrd
            have HCL := hide hcl
            clear hR2 hC2 hUW hRV2 hU2 hin1 hin2 hrd hrow2 hcl
            unfold rcells
            go_wp2_with (at_builtin; refine wpList_append_lies _ rfl (.tmp 63) (.tmp 65) 65 rfl (w.heap.size + 1) 96 i0 zero5 5 48 Tryz.underlying65 HI.out.1 HI.out.2.1 HI.out.2.2.1 HI.out.2.2.2 rfl (by decide) _ css.length (flat css) rfl ((HRow2.out.alloc _).alloc _) ⟨w2.heap.size + 1, 0, none⟩ 1 1 [.int .i64 k0, .int .i64 m0, .string s0, .pointer p0, .pointer none] rfl rfl (news5 (heap_alloc_new1 _ _ _)) (one5 _ _ _ _) (by decide) (by unfold maxLen; omega) (by omega) (by simp; omega) (w2.heap.size + 2) (by simp) ?_)
            intro g' cap w3 hown3 hgrow hat hlt3
            have H3 := seq_upd hgrow
            have HO3 := hide hown3
            have HU3 := hide H3
            clear hown3 hgrow hat H3
            go_wp2
            go_roundw
            case rel =>
              refine ⟨n, k, acc ++ [g], css ++ [rcells k0 m0 s0 p0], ?_⟩
              exact seq_round hCl (by omega) (by omega) (by omega) (by rw [← HRd.out, rd_item_ok _ _ _ _ _ Hne.out H41.out g k (by rw [Hj.out]; exact HRD.out)]) (by omega) HU.out HCr.out HRow.out HRv.out HUW.out HC2.out HR2.out HRV2.out hsz HU3.out HO3.out
            case measure =>
              rw [curI_of HCr.out, curI_of (seq_cur hCl HRow2.out HU3.out HC2.out)]
              simp; omega
end Go.Proofs.YtlobegpjenabaaaGreatDoor

/- latheref: the cursor's datum, case by case. -/
namespace Go.Proofs.YtlobegpjenabaaaGreatDoor
open Go.RowKit
set_option linter.unusedSimpArgs false
set_option linter.unusedVariables false
attribute [local go_sem ↓] Go.wp_at_zero Go.wp_at_succ

theorem rd_c41 (n : Nat) (l : List UInt8) (op i : Nat) (h : (l.getD i 0).toNat = 41) : rd (n + 1) l op i none = .inl (2, i) := by simp only [rd]; rw [if_pos h]
theorem rd_nest (n : Nat) (l : List UInt8) (op i : Nat) (h : (l.getD i 0).toNat = 40 ∨ (l.getD i 0).toNat = 39) (ho : 20 ≤ op) : rd (n + 1) l op i none = .inl (3, i) := by
  simp only [rd]
  rcases h with h | h
  · rw [if_neg (by omega), if_pos h, if_pos ho]
  · rw [if_neg (by omega), if_neg (by omega), if_pos h, if_pos ho]
theorem rd_open (n : Nat) (l : List UInt8) (op i : Nat) (h : (l.getD i 0).toNat = 40) (ho : ¬ 20 ≤ op) : rd (n + 1) l op i none = rd n l (op + 1) (i + 1) (some []) := by
  simp only [rd]; rw [if_neg (by omega), if_pos h, if_neg ho]
theorem rd_q_end (n : Nat) (l : List UInt8) (op i : Nat) (h : (l.getD i 0).toNat = 39) (ho : ¬ 20 ≤ op) (hs : skipTo l (i + 1) = l.length) : rd (n + 1) l op i none = .inl (2, l.length) := by
  simp only [rd]; rw [if_neg (by omega), if_neg (by omega), if_pos h, if_neg ho, if_pos hs]
theorem rd_q_err (n : Nat) (l : List UInt8) (op i : Nat) (h : (l.getD i 0).toNat = 39) (ho : ¬ 20 ≤ op) (hs : ¬ skipTo l (i + 1) = l.length) (e : Int × Nat) (hr : rd n l (op + 1) (skipTo l (i + 1)) none = .inl e) : rd (n + 1) l op i none = .inl e := by
  simp only [rd]; rw [if_neg (by omega), if_neg (by omega), if_pos h, if_neg ho, if_neg hs, hr]
theorem rd_q_ok (n : Nat) (l : List UInt8) (op i : Nat) (h : (l.getD i 0).toNat = 39) (ho : ¬ 20 ≤ op) (hs : ¬ skipTo l (i + 1) = l.length) (d : D) (k : Nat) (hr : rd n l (op + 1) (skipTo l (i + 1)) none = .inr (d, k)) : rd (n + 1) l op i none = .inr (lst [sym qsym, d], k) := by
  simp only [rd]; rw [if_neg (by omega), if_neg (by omega), if_pos h, if_neg ho, if_neg hs, hr]
theorem rd_tok (n : Nat) (l : List UInt8) (op i : Nat) (h1 : ¬ (l.getD i 0).toNat = 41) (h2 : ¬ (l.getD i 0).toNat = 40) (h3 : ¬ (l.getD i 0).toNat = 39) :
    rd (n + 1) l op i none = if tokEnd l i = i then .inl (2, i) else match tokD ((l.drop i).take (tokEnd l i - i)) with | none => .inl (2, i) | some d => .inr (d, tokEnd l i) := by
  simp only [rd]; rw [if_neg h1, if_neg h2, if_neg h3]; rfl

/-- The cells of the new block of a result. -/
abbrev Z5 : Obj := .cells #[.int .i64 0, .int .i64 0, .string ⟨#[]⟩, .pointer none, .pointer none] 96 (0, 0)

/-- What a fault leaves, stored as the result. -/
theorem wrong_fin {s : ByteArray} {C m : Nat} {w w2 : World} {r : Res (D × Nat)} {i e : Int} {p : Nat} (hCl : C < w.heap.size) (hm : 0 < m) (hU : Upd (fun k => k = C) w w2) (hR : w2.heap[w.heap.size]? = some Z5)
    (hC : w2.heap[C]? = some (cur s i e p)) (hr : r = .inl (e, p)) : CurPost s C w m r (.returned (.agg (rcells 0 0 emptyB none))) (set5 w2 w.heap.size (.int .i64 0) (.int .i64 0) (.string emptyB) (.pointer none) (.pointer none)) :=
  cur_fin hCl hU hR hC (RV.zero _ _ hm) (fun er q h => by rw [hr] at h; cases h; exact ⟨rfl, rfl⟩) (fun d k h => by rw [hr] at h; cases h)

set_option maxRecDepth 100000 in
set_option maxHeartbeats 1000000 in
theorem datum_wrong41 (s : ByteArray) (hs : s.size ≤ 1000) (n C op i : Nat) (w : World) (ho : op ≤ 20) (hi : i < s.size) (hC : w.heap[C]? = some (cur s i 0 0)) (hc : s[i].toNat = 41) (hop : 41 = 41 ∨ 20 ≤ op) :
    Calls Tryz.prog 64 #[.pointer (some ⟨C, 0, none⟩), .int .i64 op] w (CurPost s C w (21 - op) (rd (n + 1) s.data.toList op i none)) := by
  have hCl := lt_of_some hC
  have hg := at_getD s i hi
  have hr : rd (n + 1) s.data.toList op i none = .inl (2, i) := by
    first
      | exact rd_c41 _ _ _ _ (by rw [hg]; exact hc)
      | exact rd_nest _ _ _ _ (by rw [hg]; omega) (by omega)
  have HRd := hide hr
  clear hr hg
  have c0 := cell_of_block hC 0
  have c1 := cell_of_block hC 1
  simp at c0 c1
  have b41 : ((s[i].toNat : Int) == 41) = decide (41 = 41) := by rw [Bool.eq_iff_iff]; simp; omega
  have b40 : ((s[i].toNat : Int) == 40) = decide (41 = 40) := by rw [Bool.eq_iff_iff]; simp; omega
  have b39 : ((s[i].toNat : Int) == 39) = decide (41 = 39) := by rw [Bool.eq_iff_iff]; simp; omega
  simp at b41 b40 b39
  have HC := hide hC
  have hcc := hide hc
  clear hC hc
  have hop' : 41 = 41 ∨ (20 : Int) ≤ (op : Int) := by omega
  have hop'' : (20 : Int) ≤ (op : Int) ∨ 41 = 41 := by omega
  simp at hop' hop''
  go_enter Tryz.func64, Tryz.ntmps64
  go_wp2_with fail
  refine (wrong_any s i 0 0 2 i C _ (by exact heap_alloc_lt HC.out)).mono ?_
  rintro e w2 ⟨rfl, hC2, hU2⟩
  have hR2 := hU2.at (heap_alloc_new _ _) (by omega)
  have hUU := ((Upd.refl (fun k => k = C) w).alloc _).trans hU2 (fun _ _ h => h)
  have f0 := frozen_of_block hR2 0
  have f1 := frozen_of_block hR2 1
  have f2 := frozen_of_block hR2 2
  have f3 := frozen_of_block hR2 3
  have f4 := frozen_of_block hR2 4
  have r0 := cell_of_block hR2 0
  have r1 := cell_of_block hR2 1
  have r2 := cell_of_block hR2 2
  have r3 := cell_of_block hR2 3
  have r4 := cell_of_block hR2 4
  simp at r0 r1 r2 r3 r4
  have HR2 := hide hR2
  have HC2 := hide hC2
  have HUU := hide hUU
  clear hR2 hC2 hU2 hUU
  unfold rcells
  go_wp2
  refine ret5 Tryz.results64 rfl (set5_same _ _ _ _ _ HR2.out) rfl ?_
  exact wrong_fin hCl (by omega) HUU.out HR2.out HC2.out HRd.out
set_option maxRecDepth 100000 in
set_option maxHeartbeats 1000000 in
theorem datum_wrong40 (s : ByteArray) (hs : s.size ≤ 1000) (n C op i : Nat) (w : World) (ho : op ≤ 20) (hi : i < s.size) (hC : w.heap[C]? = some (cur s i 0 0)) (hc : s[i].toNat = 40) (hop : 40 = 41 ∨ 20 ≤ op) :
    Calls Tryz.prog 64 #[.pointer (some ⟨C, 0, none⟩), .int .i64 op] w (CurPost s C w (21 - op) (rd (n + 1) s.data.toList op i none)) := by
  have hCl := lt_of_some hC
  have hg := at_getD s i hi
  have hr : rd (n + 1) s.data.toList op i none = .inl (3, i) := by
    first
      | exact rd_c41 _ _ _ _ (by rw [hg]; exact hc)
      | exact rd_nest _ _ _ _ (by rw [hg]; omega) (by omega)
  have HRd := hide hr
  clear hr hg
  have c0 := cell_of_block hC 0
  have c1 := cell_of_block hC 1
  simp at c0 c1
  have b41 : ((s[i].toNat : Int) == 41) = decide (40 = 41) := by rw [Bool.eq_iff_iff]; simp; omega
  have b40 : ((s[i].toNat : Int) == 40) = decide (40 = 40) := by rw [Bool.eq_iff_iff]; simp; omega
  have b39 : ((s[i].toNat : Int) == 39) = decide (40 = 39) := by rw [Bool.eq_iff_iff]; simp; omega
  simp at b41 b40 b39
  have HC := hide hC
  have hcc := hide hc
  clear hC hc
  have hop' : 40 = 41 ∨ (20 : Int) ≤ (op : Int) := by omega
  have hop'' : (20 : Int) ≤ (op : Int) ∨ 40 = 41 := by omega
  simp at hop' hop''
  go_enter Tryz.func64, Tryz.ntmps64
  go_wp2_with fail
  refine (wrong_any s i 0 0 3 i C _ (by exact heap_alloc_lt HC.out)).mono ?_
  rintro e w2 ⟨rfl, hC2, hU2⟩
  have hR2 := hU2.at (heap_alloc_new _ _) (by omega)
  have hUU := ((Upd.refl (fun k => k = C) w).alloc _).trans hU2 (fun _ _ h => h)
  have f0 := frozen_of_block hR2 0
  have f1 := frozen_of_block hR2 1
  have f2 := frozen_of_block hR2 2
  have f3 := frozen_of_block hR2 3
  have f4 := frozen_of_block hR2 4
  have r0 := cell_of_block hR2 0
  have r1 := cell_of_block hR2 1
  have r2 := cell_of_block hR2 2
  have r3 := cell_of_block hR2 3
  have r4 := cell_of_block hR2 4
  simp at r0 r1 r2 r3 r4
  have HR2 := hide hR2
  have HC2 := hide hC2
  have HUU := hide hUU
  clear hR2 hC2 hU2 hUU
  unfold rcells
  go_wp2
  refine ret5 Tryz.results64 rfl (set5_same _ _ _ _ _ HR2.out) rfl ?_
  exact wrong_fin hCl (by omega) HUU.out HR2.out HC2.out HRd.out
set_option maxRecDepth 100000 in
set_option maxHeartbeats 1000000 in
theorem datum_wrong39 (s : ByteArray) (hs : s.size ≤ 1000) (n C op i : Nat) (w : World) (ho : op ≤ 20) (hi : i < s.size) (hC : w.heap[C]? = some (cur s i 0 0)) (hc : s[i].toNat = 39) (hop : 39 = 41 ∨ 20 ≤ op) :
    Calls Tryz.prog 64 #[.pointer (some ⟨C, 0, none⟩), .int .i64 op] w (CurPost s C w (21 - op) (rd (n + 1) s.data.toList op i none)) := by
  have hCl := lt_of_some hC
  have hg := at_getD s i hi
  have hr : rd (n + 1) s.data.toList op i none = .inl (3, i) := by
    first
      | exact rd_c41 _ _ _ _ (by rw [hg]; exact hc)
      | exact rd_nest _ _ _ _ (by rw [hg]; omega) (by omega)
  have HRd := hide hr
  clear hr hg
  have c0 := cell_of_block hC 0
  have c1 := cell_of_block hC 1
  simp at c0 c1
  have b41 : ((s[i].toNat : Int) == 41) = decide (39 = 41) := by rw [Bool.eq_iff_iff]; simp; omega
  have b40 : ((s[i].toNat : Int) == 40) = decide (39 = 40) := by rw [Bool.eq_iff_iff]; simp; omega
  have b39 : ((s[i].toNat : Int) == 39) = decide (39 = 39) := by rw [Bool.eq_iff_iff]; simp; omega
  simp at b41 b40 b39
  have HC := hide hC
  have hcc := hide hc
  clear hC hc
  have hop' : 39 = 41 ∨ (20 : Int) ≤ (op : Int) := by omega
  have hop'' : (20 : Int) ≤ (op : Int) ∨ 39 = 41 := by omega
  simp at hop' hop''
  go_enter Tryz.func64, Tryz.ntmps64
  go_wp2_with fail
  refine (wrong_any s i 0 0 3 i C _ (by exact heap_alloc_lt HC.out)).mono ?_
  rintro e w2 ⟨rfl, hC2, hU2⟩
  have hR2 := hU2.at (heap_alloc_new _ _) (by omega)
  have hUU := ((Upd.refl (fun k => k = C) w).alloc _).trans hU2 (fun _ _ h => h)
  have f0 := frozen_of_block hR2 0
  have f1 := frozen_of_block hR2 1
  have f2 := frozen_of_block hR2 2
  have f3 := frozen_of_block hR2 3
  have f4 := frozen_of_block hR2 4
  have r0 := cell_of_block hR2 0
  have r1 := cell_of_block hR2 1
  have r2 := cell_of_block hR2 2
  have r3 := cell_of_block hR2 3
  have r4 := cell_of_block hR2 4
  simp at r0 r1 r2 r3 r4
  have HR2 := hide hR2
  have HC2 := hide hC2
  have HUU := hide hUU
  clear hR2 hC2 hU2 hUU
  unfold rcells
  go_wp2
  refine ret5 Tryz.results64 rfl (set5_same _ _ _ _ _ HR2.out) rfl ?_
  exact wrong_fin hCl (by omega) HUU.out HR2.out HC2.out HRd.out

set_option maxRecDepth 100000 in
set_option maxHeartbeats 1000000 in
theorem datum_open (s : ByteArray) (hs : s.size ≤ 1000) (n C op i : Nat) (w : World) (HL : ListAt s n) (ho : op < 20) (hi : i < s.size) (hC : w.heap[C]? = some (cur s i 0 0)) (hc : s[i].toNat = 40) (hn : 2 * (s.size - i) < n + 1) :
    Calls Tryz.prog 64 #[.pointer (some ⟨C, 0, none⟩), .int .i64 op] w (CurPost s C w (21 - op) (rd (n + 1) s.data.toList op i none)) := by
  have hCl := lt_of_some hC
  have hg := at_getD s i hi
  have HRd := hide (rd_open n s.data.toList op i (by rw [hg]; exact hc) (by omega))
  clear hg
  have HLL := hide HL
  clear HL
  have c0 := cell_of_block hC 0
  have c1 := cell_of_block hC 1
  have f1 := frozen_of_block hC 1
  simp at c0 c1
  have b41 : ((s[i].toNat : Int) == 41) = false := by rw [beq_eq_false_iff_ne]; omega
  have b40 : ((s[i].toNat : Int) == 40) = true := by rw [beq_iff_eq]; omega
  have HC := hide hC
  clear hC hc
  have hop : (op : Int) < 20 := by omega
  go_enter Tryz.func64, Tryz.ntmps64
  go_wp2_with fail
  have hC1 : ((w.setCell ⟨C, 1, none⟩ (.int .i64 ((i : Int) + 1))).alloc Z5).heap[C]? = some (cur s ((i + 1 : Nat) : Int) 0 0) := heap_alloc_lt (heap_setCell_same HC.out)
  have e1 : ((op : Int) + 1) = ((op + 1 : Nat) : Int) := by omega
  rw [e1]
  refine (HLL.out C (op + 1) (i + 1) _ (by omega) (by omega) (by omega) (by exact hC1) (by omega)).mono ?_
  rintro e w2 ⟨cs, g, rfl, hRV2, hU2, i2, e2, a2, hC2, hin1, hin2⟩
  obtain ⟨k0, m0, s0, p0, rfl⟩ := RV.form _ _ _ hRV2
  have hUU := (((Upd.refl (fun k => k = C) w).setCell ⟨C, 1, none⟩ _ (fun _ => rfl)).alloc _).trans hU2 (fun _ _ h => h)
  have hR1 : ((w.setCell ⟨C, 1, none⟩ (.int .i64 ((i : Int) + 1))).alloc Z5).heap[w.heap.size]? = some Z5 := by
    have := heap_alloc_new (w.setCell ⟨C, 1, none⟩ (.int .i64 ((i : Int) + 1))) Z5
    simpa [World.setCell] using this
  have hR2 := hU2.at hR1 (by omega)
  have f0 := frozen_of_block hR2 0
  have f1 := frozen_of_block hR2 1
  have f2 := frozen_of_block hR2 2
  have f3 := frozen_of_block hR2 3
  have f4 := frozen_of_block hR2 4
  have r0 := cell_of_block hR2 0
  have r1 := cell_of_block hR2 1
  have r2 := cell_of_block hR2 2
  have r3 := cell_of_block hR2 3
  have r4 := cell_of_block hR2 4
  simp at r0 r1 r2 r3 r4
  have HR2 := hide hR2
  have HC2 := hide hC2
  have HUU := hide hUU
  have HRV2 := hide hRV2
  have HIN := hide (And.intro hin1 hin2)
  clear hR2 hC2 hU2 hUU hR1 hC1 hRV2 hin1 hin2 e1
  unfold rcells
  go_wp2
  refine ret5 Tryz.results64 rfl (set5_same _ _ _ _ _ HR2.out) rfl ?_
  exact cur_fin (g := g) hCl HUU.out HR2.out HC2.out (by have := HRV2.out; rw [show 22 - (op + 1) = 21 - op from by omega] at this; exact this) (by rw [HRd.out]; exact HIN.out.1) (by rw [HRd.out]; exact HIN.out.2)
end Go.Proofs.YtlobegpjenabaaaGreatDoor
