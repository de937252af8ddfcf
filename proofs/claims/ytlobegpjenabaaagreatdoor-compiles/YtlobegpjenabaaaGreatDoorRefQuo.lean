/- latheref: the cursor's datum: a quote sign. -/
import Derived.Test.YtlobegpjenabaaaGreatDoorRefDat
namespace Go.Proofs.YtlobegpjenabaaaGreatDoor
open Go.RowKit
set_option linter.unusedSimpArgs false
set_option linter.unusedVariables false
attribute [local go_sem ↓] Go.wp_at_zero Go.wp_at_succ

theorem row_two {w : World} {b : Nat} {k1 m1 k2 m2 : Int} {s1 s2 : ByteArray} {p1 p2 : Option Addr}
    (h : w.heap[b]? = some (Obj.cells #[.int .i64 k1, .int .i64 m1, .string s1, .pointer p1, .pointer none, .int .i64 k2, .int .i64 m2, .string s2, .pointer p2, .pointer none] 96 (0, 0))) :
    Row5 0 w (.slice (some ⟨b, 0, none⟩) 2 2) [rcells k1 m1 s1 p1, rcells k2 m2 s2 p2] :=
  ⟨rfl, Or.inr ⟨b, 2, _, rfl, Nat.zero_le _, h, Nat.le_refl _, by unfold maxLen; omega, rfl, rfl⟩⟩

set_option maxRecDepth 100000 in
set_option maxHeartbeats 1000000 in
theorem datum_quote (s : ByteArray) (hs : s.size ≤ 1000) (n C op i : Nat) (w : World) (HD : DatumAt s n) (ho : op < 20) (hi : i < s.size) (hC : w.heap[C]? = some (cur s i 0 0)) (hc : s[i].toNat = 39) (hn : 2 * (s.size - i) < n + 1) :
    Calls Tryz.prog 64 #[.pointer (some ⟨C, 0, none⟩), .int .i64 op] w (CurPost s C w (21 - op) (rd (n + 1) s.data.toList op i none)) := by
  have hCl := lt_of_some hC
  have Hg : Hid ((s.data.toList.getD i 0).toNat = 39) := by show _ = _; rw [at_getD s i hi]; exact hc
  have HDD := hide HD
  clear HD
  have c0 := cell_of_block hC 0
  have c1 := cell_of_block hC 1
  have f1 := frozen_of_block hC 1
  simp at c0 c1
  have b41 : ((s[i].toNat : Int) == 41) = false := by rw [beq_eq_false_iff_ne]; omega
  have b40 : ((s[i].toNat : Int) == 40) = false := by rw [beq_eq_false_iff_ne]; omega
  have b39 : ((s[i].toNat : Int) == 39) = true := by rw [beq_iff_eq]; omega
  have HC := hide hC
  clear hC hc
  have hop : (op : Int) < 20 := by omega
  go_enter Tryz.func64, Tryz.ntmps64
  go_wp2_with fail
  have hC1 : ((w.setCell ⟨C, 1, none⟩ (.int .i64 ((i : Int) + 1))).alloc Z5).heap[C]? = some (cur s ((i + 1 : Nat) : Int) 0 0) := heap_alloc_lt (heap_setCell_same HC.out)
  have hU1 := ((Upd.refl (fun k => k = C) w).setCell ⟨C, 1, none⟩ (.int .i64 ((i : Int) + 1)) (fun _ => rfl)).alloc Z5
  have hR1 : ((w.setCell ⟨C, 1, none⟩ (.int .i64 ((i : Int) + 1))).alloc Z5).heap[w.heap.size]? = some Z5 := by
    have := heap_alloc_new (w.setCell ⟨C, 1, none⟩ (.int .i64 ((i : Int) + 1))) Z5
    simpa [World.setCell] using this
  generalize hW1 : (w.setCell ⟨C, 1, none⟩ (.int .i64 ((i : Int) + 1))).alloc Z5 = W1 at *
  clear hW1
  have c0 := cell_of_block hC1 0
  have c1 := cell_of_block hC1 1
  have f1 := frozen_of_block hC1 1
  simp at c0 c1
  have HC1 := hide hC1
  have HU1 := hide hU1
  have HR1 := hide hR1
  clear hC1 hU1 hR1
  go_cut [] (fun wc => wc.heap[C]? = some (cur s (skipTo s.data.toList (i + 1)) 0 0) ∧ Upd (fun k => k = C) W1 wc)
  case first =>
    go_region_with (go_at_call 63; refine (skip_any s (i + 1) _ ?_ ?_).mono ?_; omega; omega; rintro e w' ⟨rfl, rfl⟩)
    all_goals
      go_wp2
      go_meet
      case rel => exact ⟨heap_setCell_same HC1.out, ((Upd.refl (fun k => k = C) W1).setCell ⟨C, 1, none⟩ _ (fun _ => rfl)).drew⟩
  case rest =>
    obtain ⟨hC2, hU2⟩ := hcut
    have hj1 := skipTo_le s.data.toList (i + 1) (by simp; omega)
    have hj2 := le_skipTo s.data.toList (i + 1)
    obtain ⟨j, hj⟩ : ∃ j, skipTo s.data.toList (i + 1) = j := ⟨_, rfl⟩
    rw [hj] at hC2 hj1 hj2
    have Hj := hide hj
    clear hj
    simp at hj1
    have hUW := HU1.out.trans hU2 (fun _ _ h => h)
    have hRW := hU2.at HR1.out (by omega)
    have c0 := cell_of_block hC2 0
    have c1 := cell_of_block hC2 1
    simp at c0 c1
    have HC2 := hide hC2
    have HUW := hide hUW
    have HRW := hide hRW
    clear hC2 hU2 hUW hRW
    by_cases hje : j = s.size
    · have bje : ((j : Int) == (s.size : Int)) = true := by rw [beq_iff_eq]; omega
      have HRd := hide (rd_q_end n s.data.toList op i Hg.out (by omega) (by rw [Hj.out, hje]; simp))
      have Hje := hide hje
      clear hje
      go_wp2_with fail
      go_quiet (fail)
      go_wp2_with fail
      refine (wrong_any s j 0 0 2 j C _ (by exact HC2.out)).mono ?_
      rintro e w2 ⟨rfl, hC3, hU3⟩
      have hR2 := hU3.at HRW.out (by omega)
      have hUU := (HUW.out.drewN _).trans hU3 (fun _ _ h => h)
      have f0 := frozen_of_block hR2 0
      have f1 := frozen_of_block hR2 1
      have f2 := frozen_of_block hR2 2
      have f3 := frozen_of_block hR2 3
      have f4 := frozen_of_block hR2 4
      have r0 := cell_of_block hR2 0
      have r1 := cell_of_block hR2 1
      have r2 := cell_of_block hR2 2
      have r3 := cell_of_block hR2 3
      have r4 := cell_of_block hR2 4
      simp at r0 r1 r2 r3 r4
      have HR2 := hide hR2
      have HC3 := hide hC3
      have HUU := hide hUU
      clear hR2 hC3 hU3 hUU
      unfold rcells
      go_wp2
      refine ret5 Tryz.results64 rfl (set5_same _ _ _ _ _ HR2.out) rfl ?_
      exact wrong_fin hCl (by omega) HUU.out HR2.out HC3.out (by rw [HRd.out, Hje.out]; simp)
    · have bje : ((j : Int) == (s.size : Int)) = false := by rw [beq_eq_false_iff_ne]; omega
      have Hne : Hid (¬ skipTo s.data.toList (i + 1) = s.data.toList.length) := by show ¬ _; rw [Hj.out]; simpa using hje
      have hjs : j < s.size := by omega
      clear hje
      go_wp2_with fail
      go_quiet (fail)
      go_wp2_with fail
      have e1 : ((op : Int) + 1) = ((op + 1 : Nat) : Int) := by omega
      rw [e1]
      refine (HDD.out C (op + 1) j _ (by omega) hjs (by exact HC2.out) (by omega)).mono ?_
      rintro e w2 ⟨cs, g, rfl, hRV2, hU3, i2, e2, a2, hC3, hin1, hin2⟩
      obtain ⟨k0, m0, s0, p0, rfl⟩ := RV.form _ _ _ hRV2
      have hR2 := hU3.at HRW.out (by omega)
      have hUU := (HUW.out.drewN _).trans hU3 (fun _ _ h => h)
      have HR2 := hide hR2
      have HC3 := hide hC3
      have HUU := hide hUU
      have HRV2 := hide hRV2
      have HIN := hide (And.intro hin1 hin2)
      clear hR2 hC3 hU3 hUU hRV2 hin1 hin2 e1
      unfold rcells
      go_wp2_with fail
      refine (list_any (20 - op) [rcells 3 0 ⟨#[113, 117, 111, 116, 101]⟩ none, rcells k0 m0 s0 p0] [sym qsym, g] _ _ 0 (by exact row_two (heap_alloc_new1 _ _ _)) ?_ (by simp)).mono ?_
      · refine ⟨rfl, ?_, rfl, ?_, trivial⟩
        · rw [show 20 - op = (19 - op) + 1 from by omega]; rfl
        · have := HRV2.out
          rw [show 21 - (op + 1) = 20 - op from by omega] at this
          exact RV.keep (Keep.of_upd (((Upd.refl (fun _ => False) w2).alloc _).alloc _) (fun _ _ h => h.elim)) _ _ _ this
      rintro e w3 ⟨cs3, _, rfl, hRV3, hB3⟩
      obtain ⟨k3, m3, s3, p3, rfl⟩ := RV.form _ _ _ hRV3
      have hU3 := (((Upd.refl (fun _ => False) w2).alloc _).alloc _).trans (Upd.of_below (fun _ => False) hB3) (fun _ _ h => h)
      have hR3 := hU3.at HR2.out (fun h => h)
      have hC4 := hU3.at HC3.out (fun h => h)
      have hU4 := HUU.out.trans hU3 (fun _ _ h => h.elim)
      have f0 := frozen_of_block hR3 0
      have f1 := frozen_of_block hR3 1
      have f2 := frozen_of_block hR3 2
      have f3 := frozen_of_block hR3 3
      have f4 := frozen_of_block hR3 4
      have r0 := cell_of_block hR3 0
      have r1 := cell_of_block hR3 1
      have r2 := cell_of_block hR3 2
      have r3 := cell_of_block hR3 3
      have r4 := cell_of_block hR3 4
      simp at r0 r1 r2 r3 r4
      have HR3 := hide hR3
      have HC4 := hide hC4
      have HU4 := hide hU4
      have HRV3 := hide hRV3
      clear hR3 hC4 hU3 hU4 hRV3 hB3
      unfold rcells
      go_wp2
      refine ret5 Tryz.results64 rfl (set5_same _ _ _ _ _ HR3.out) rfl ?_
      refine cur_fin (g := .agg [sym qsym, g]) hCl HU4.out HR3.out HC4.out (by have := HRV3.out; rw [show 20 - op + 1 = 21 - op from by omega] at this; exact this) ?_ ?_
      · intro er p h
        cases hr : rd n s.data.toList (op + 1) j none with
        | inl e =>
          rw [rd_q_err n _ op i Hg.out (by omega) Hne.out e (by rw [Hj.out]; exact hr)] at h
          cases h; exact HIN.out.1 _ _ hr
        | inr dk =>
          obtain ⟨d, k⟩ := dk
          rw [rd_q_ok n _ op i Hg.out (by omega) Hne.out d k (by rw [Hj.out]; exact hr)] at h
          cases h
      · intro d k h
        cases hr : rd n s.data.toList (op + 1) j none with
        | inl e =>
          rw [rd_q_err n _ op i Hg.out (by omega) Hne.out e (by rw [Hj.out]; exact hr)] at h
          cases h
        | inr dk =>
          obtain ⟨d', k'⟩ := dk
          rw [rd_q_ok n _ op i Hg.out (by omega) Hne.out d' k' (by rw [Hj.out]; exact hr)] at h
          cases h
          obtain ⟨h1, h2, h3, h4⟩ := HIN.out.2 _ _ hr
          exact ⟨h1, h2, h3, by rw [h4]; rfl⟩
end Go.Proofs.YtlobegpjenabaaaGreatDoor
