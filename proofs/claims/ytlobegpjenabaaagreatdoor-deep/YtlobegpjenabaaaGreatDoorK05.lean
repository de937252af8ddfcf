/- latheref: the cursor's datum: a quote sign. -/
import Derived.Test.YtlobegpjenabaaaGreatDoorK04
import Derived.Lib.Strings
import Derived.Deep.CutBlock
namespace Go.Proofs.YtlobegpjenabaaaGreatDoor
open Go.RowKit
set_option linter.unusedSimpArgs false
set_option linter.unusedVariables false
attribute [local go_sem ↓] Go.wp_at_zero Go.wp_at_succ

theorem row_two {w : World} {b : Nat} {k1 m1 k2 m2 : Int} {s1 s2 : ByteArray} {p1 p2 : Option Addr}
    (h : w.heap[b]? = some (Obj.cells #[.int .i64 k1, .int .i64 m1, .string s1, .pointer p1, .pointer none, .int .i64 k2, .int .i64 m2, .string s2, .pointer p2, .pointer none] 96 (0, 0))) :
    Row5 0 w (.slice (some ⟨b, 0, none⟩) 2 2) [rcells k1 m1 s1 p1, rcells k2 m2 s2 p2] :=
  ⟨rfl, Or.inr ⟨b, 2, _, rfl, Nat.zero_le _, h, Nat.le_refl _, by unfold maxLen; omega, rfl, rfl⟩⟩

set_option maxRecDepth 100000 in
set_option maxHeartbeats 1000000 in
theorem datum_quote (s : ByteArray) (hs : s.size ≤ 1000) (n C op i : Nat) (w : World) (HD : DatumAt s n) (ho : op < 20) (hi : i < s.size) (hC : w.heap[C]? = some (cur s i 0 0)) (hc : s[i].toNat = 39) (hn : 2 * (s.size - i) < n + 1) :
    Calls Tryz.prog 64 #[.pointer (some ⟨C, 0, none⟩), .int .i64 op] w (CurPost s C w (21 - op) (rd (n + 1) s.data.toList op i none)) := by
  have hCl := lt_of_some hC
  have Hg : Hid ((s.data.toList.getD i 0).toNat = 39) := by show _ = _; rw [at_getD s i hi]; exact hc
  have HDD := hide HD
  clear HD
  have c0 := cell_of_block hC 0
  have c1 := cell_of_block hC 1
  have f1 := frozen_of_block hC 1
  simp at c0 c1
  have b41 : ((s[i].toNat : Int) == 41) = false := by rw [beq_eq_false_iff_ne]; omega
  have b40 : ((s[i].toNat : Int) == 40) = false := by rw [beq_eq_false_iff_ne]; omega
  have b39 : ((s[i].toNat : Int) == 39) = true := by rw [beq_iff_eq]; omega
  have HC := hide hC
  clear hC hc
  have hop : (op : Int) < 20 := by omega
  go_enter Tryz.func64, Tryz.ntmps64
  go_wp2_with fail
  have hC1 : ((w.setCell ⟨C, 1, none⟩ (.int .i64 ((i : Int) + 1))).alloc Z5).heap[C]? = some (cur s ((i + 1 : Nat) : Int) 0 0) := heap_alloc_lt (heap_setCell_same HC.out)
  have hU1 := ((Upd.refl (fun k => k = C) w).setCell ⟨C, 1, none⟩ (.int .i64 ((i : Int) + 1)) (fun _ => rfl)).alloc Z5
  have hR1 : ((w.setCell ⟨C, 1, none⟩ (.int .i64 ((i : Int) + 1))).alloc Z5).heap[w.heap.size]? = some Z5 := by
    have := heap_alloc_new (w.setCell ⟨C, 1, none⟩ (.int .i64 ((i : Int) + 1))) Z5
    simpa [World.setCell] using this
  generalize hW1 : (w.setCell ⟨C, 1, none⟩ (.int .i64 ((i : Int) + 1))).alloc Z5 = W1 at *
  clear hW1
  have c0 := cell_of_block hC1 0
  have c1 := cell_of_block hC1 1
  have f1 := frozen_of_block hC1 1
  simp at c0 c1
  have HC1 := hide hC1
  have HU1 := hide hU1
  have HR1 := hide hR1
  clear hC1 hU1 hR1
  go_cut [] (fun wc => wc.heap[C]? = some (cur s (skipTo s.data.toList (i + 1)) 0 0) ∧ Upd (fun k => k = C) W1 wc)
  case first =>
    go_region_with (go_at_call 63; refine (skip_any s (i + 1) _ ?_ ?_).mono ?_; omega; omega; rintro e w' ⟨rfl, rfl⟩)
    all_goals
      go_wp2
      go_meet
      case rel => exact ⟨heap_setCell_same HC1.out, ((Upd.refl (fun k => k = C) W1).setCell ⟨C, 1, none⟩ _ (fun _ => rfl)).drew⟩
  case rest =>
    obtain ⟨hC2, hU2⟩ := hcut
    have hj1 := skipTo_le s.data.toList (i + 1) (by simp; omega)
    have hj2 := le_skipTo s.data.toList (i + 1)
    obtain ⟨j, hj⟩ : ∃ j, skipTo s.data.toList (i + 1) = j := ⟨_, rfl⟩
    rw [hj] at hC2 hj1 hj2
    have Hj := hide hj
    clear hj
    simp at hj1
    have hUW := HU1.out.trans hU2 (fun _ _ h => h)
    have hRW := hU2.at HR1.out (by omega)
    have c0 := cell_of_block hC2 0
    have c1 := cell_of_block hC2 1
    simp at c0 c1
    have HC2 := hide hC2
    have HUW := hide hUW
    have HRW := hide hRW
    clear hC2 hU2 hUW hRW
    by_cases hje : j = s.size
    · have bje : ((j : Int) == (s.size : Int)) = true := by rw [beq_iff_eq]; omega
      have HRd := hide (rd_q_end n s.data.toList op i Hg.out (by omega) (by rw [Hj.out, hje]; simp))
      have Hje := hide hje
      clear hje
      go_wp2_with fail
      go_quiet (fail)
      go_wp2_with fail
      refine (wrong_any s j 0 0 2 j C _ (by exact HC2.out)).mono ?_
      rintro e w2 ⟨rfl, hC3, hU3⟩
      have hR2 := hU3.at HRW.out (by omega)
      have hUU := (HUW.out.drewN _).trans hU3 (fun _ _ h => h)
      have f0 := frozen_of_block hR2 0
      have f1 := frozen_of_block hR2 1
      have f2 := frozen_of_block hR2 2
      have f3 := frozen_of_block hR2 3
      have f4 := frozen_of_block hR2 4
      have r0 := cell_of_block hR2 0
      have r1 := cell_of_block hR2 1
      have r2 := cell_of_block hR2 2
      have r3 := cell_of_block hR2 3
      have r4 := cell_of_block hR2 4
      simp at r0 r1 r2 r3 r4
      have HR2 := hide hR2
      have HC3 := hide hC3
      have HUU := hide hUU
      clear hR2 hC3 hU3 hUU
      unfold rcells
      go_wp2
      refine ret5 Tryz.results64 rfl (set5_same _ _ _ _ _ HR2.out) rfl ?_
      exact wrong_fin hCl (by omega) HUU.out HR2.out HC3.out (by rw [HRd.out, Hje.out]; simp)
    · have bje : ((j : Int) == (s.size : Int)) = false := by rw [beq_eq_false_iff_ne]; omega
      have Hne : Hid (¬ skipTo s.data.toList (i + 1) = s.data.toList.length) := by show ¬ _; rw [Hj.out]; simpa using hje
      have hjs : j < s.size := by omega
      clear hje
      go_wp2_with fail
      go_quiet (fail)
      go_wp2_with fail
      have e1 : ((op : Int) + 1) = ((op + 1 : Nat) : Int) := by omega
      rw [e1]
      refine (HDD.out C (op + 1) j _ (by omega) hjs (by exact HC2.out) (by omega)).mono ?_
      rintro e w2 ⟨cs, g, rfl, hRV2, hU3, i2, e2, a2, hC3, hin1, hin2⟩
      obtain ⟨k0, m0, s0, p0, rfl⟩ := RV.form _ _ _ hRV2
      have hR2 := hU3.at HRW.out (by omega)
      have hUU := (HUW.out.drewN _).trans hU3 (fun _ _ h => h)
      have HR2 := hide hR2
      have HC3 := hide hC3
      have HUU := hide hUU
      have HRV2 := hide hRV2
      have HIN := hide (And.intro hin1 hin2)
      clear hR2 hC3 hU3 hUU hRV2 hin1 hin2 e1
      unfold rcells
      go_wp2_with fail
      refine (list_any (20 - op) [rcells 3 0 ⟨#[113, 117, 111, 116, 101]⟩ none, rcells k0 m0 s0 p0] [sym qsym, g] _ _ 0 (by exact row_two (heap_alloc_new1 _ _ _)) ?_ (by simp)).mono ?_
      · refine ⟨rfl, ?_, rfl, ?_, trivial⟩
        · rw [show 20 - op = (19 - op) + 1 from by omega]; rfl
        · have := HRV2.out
          rw [show 21 - (op + 1) = 20 - op from by omega] at this
          exact RV.keep (Keep.of_upd (((Upd.refl (fun _ => False) w2).alloc _).alloc _) (fun _ _ h => h.elim)) _ _ _ this
      rintro e w3 ⟨cs3, _, rfl, hRV3, hB3⟩
      obtain ⟨k3, m3, s3, p3, rfl⟩ := RV.form _ _ _ hRV3
      have hU3 := (((Upd.refl (fun _ => False) w2).alloc _).alloc _).trans (Upd.of_below (fun _ => False) hB3) (fun _ _ h => h)
      have hR3 := hU3.at HR2.out (fun h => h)
      have hC4 := hU3.at HC3.out (fun h => h)
      have hU4 := HUU.out.trans hU3 (fun _ _ h => h.elim)
      have f0 := frozen_of_block hR3 0
      have f1 := frozen_of_block hR3 1
      have f2 := frozen_of_block hR3 2
      have f3 := frozen_of_block hR3 3
      have f4 := frozen_of_block hR3 4
      have r0 := cell_of_block hR3 0
      have r1 := cell_of_block hR3 1
      have r2 := cell_of_block hR3 2
      have r3 := cell_of_block hR3 3
      have r4 := cell_of_block hR3 4
      simp at r0 r1 r2 r3 r4
      have HR3 := hide hR3
      have HC4 := hide hC4
      have HU4 := hide hU4
      have HRV3 := hide hRV3
      clear hR3 hC4 hU3 hU4 hRV3 hB3
      unfold rcells
      go_wp2
      refine ret5 Tryz.results64 rfl (set5_same _ _ _ _ _ HR3.out) rfl ?_
      refine cur_fin (g := .agg [sym qsym, g]) hCl HU4.out HR3.out HC4.out (by have := HRV3.out; rw [show 20 - op + 1 = 21 - op from by omega] at this; exact this) ?_ ?_
      · intro er p h
        cases hr : rd n s.data.toList (op + 1) j none with
        | inl e =>
          rw [rd_q_err n _ op i Hg.out (by omega) Hne.out e (by rw [Hj.out]; exact hr)] at h
          cases h; exact HIN.out.1 _ _ hr
        | inr dk =>
          obtain ⟨d, k⟩ := dk
          rw [rd_q_ok n _ op i Hg.out (by omega) Hne.out d k (by rw [Hj.out]; exact hr)] at h
          cases h
      · intro d k h
        cases hr : rd n s.data.toList (op + 1) j none with
        | inl e =>
          rw [rd_q_err n _ op i Hg.out (by omega) Hne.out e (by rw [Hj.out]; exact hr)] at h
          cases h
        | inr dk =>
          obtain ⟨d', k'⟩ := dk
          rw [rd_q_ok n _ op i Hg.out (by omega) Hne.out d' k' (by rw [Hj.out]; exact hr)] at h
          cases h
          obtain ⟨h1, h2, h3, h4⟩ := HIN.out.2 _ _ hr
          exact ⟨h1, h2, h3, by rw [h4]; rfl⟩
end Go.Proofs.YtlobegpjenabaaaGreatDoor

/- latheref: the cursor's datum: a token. -/
namespace Go.Proofs.YtlobegpjenabaaaGreatDoor
open Go.RowKit
set_option linter.unusedSimpArgs false
set_option linter.unusedVariables false

theorem tok_stop (s : ByteArray) (k : Nat) (h : k < s.size) (c : sortI s[k].toNat = 0) : tokEnd s.data.toList k = k := by
  simp only [tokEnd]; rw [drop_at s k h]; simp only [tokN]; rw [if_pos (show sortU s[k] = 0 from c)]; rfl
theorem tok_go (s : ByteArray) (k : Nat) (h : k < s.size) (c : ¬ sortI s[k].toNat = 0) : tokEnd s.data.toList (k + 1) = tokEnd s.data.toList k := by
  simp only [tokEnd]; rw [drop_at s k h]; simp only [tokN]; rw [if_neg (show ¬ sortU s[k] = 0 from c)]; omega
theorem tok_last (s : ByteArray) (k : Nat) (h : s.size ≤ k) : tokEnd s.data.toList k = k := by
  simp only [tokEnd]; rw [drop_end s k h]; rfl

theorem rd_tok0 (n : Nat) (l : List UInt8) (op i : Nat) (h1 : ¬ (l.getD i 0).toNat = 41) (h2 : ¬ (l.getD i 0).toNat = 40) (h3 : ¬ (l.getD i 0).toNat = 39) (h : tokEnd l i = i) : rd (n + 1) l op i none = .inl (2, i) := by
  rw [rd_tok n l op i h1 h2 h3, if_pos h]
theorem rd_tokN (n : Nat) (l : List UInt8) (op i : Nat) (h1 : ¬ (l.getD i 0).toNat = 41) (h2 : ¬ (l.getD i 0).toNat = 40) (h3 : ¬ (l.getD i 0).toNat = 39) (h : ¬ tokEnd l i = i) (ht : tokD ((l.drop i).take (tokEnd l i - i)) = none) : rd (n + 1) l op i none = .inl (2, i) := by
  rw [rd_tok n l op i h1 h2 h3, if_neg h, ht]
theorem rd_tokS (n : Nat) (l : List UInt8) (op i : Nat) (h1 : ¬ (l.getD i 0).toNat = 41) (h2 : ¬ (l.getD i 0).toNat = 40) (h3 : ¬ (l.getD i 0).toNat = 39) (h : ¬ tokEnd l i = i) (d : D) (ht : tokD ((l.drop i).take (tokEnd l i - i)) = some d) : rd (n + 1) l op i none = .inr (d, tokEnd l i) := by
  rw [rd_tok n l op i h1 h2 h3, if_neg h, ht]

theorem RV.atom (w : World) (n : Nat) (h : 0 < n) (cs : Array Value) : ∀ (d : D), atomR d = some cs → RV w n cs d := by
  obtain ⟨m, rfl⟩ : ∃ m, n = m + 1 := ⟨n - 1, by omega⟩
  intro d hd
  cases d with
  | agg l => cases hd
  | _ => exact hd

set_option maxRecDepth 100000 in
set_option maxHeartbeats 1000000 in
theorem datum_tok (s : ByteArray) (hs : s.size ≤ 1000) (n C op i : Nat) (w : World) (ho : op ≤ 20) (hi : i < s.size) (hC : w.heap[C]? = some (cur s i 0 0)) (h41 : ¬ s[i].toNat = 41) (h40 : ¬ s[i].toNat = 40) (h39 : ¬ s[i].toNat = 39) :
    Calls Tryz.prog 64 #[.pointer (some ⟨C, 0, none⟩), .int .i64 op] w (CurPost s C w (21 - op) (rd (n + 1) s.data.toList op i none)) := by
  have hCl := lt_of_some hC
  have hg := at_getD s i hi
  have g41 : ¬ (s.data.toList.getD i 0).toNat = 41 := by rw [hg]; exact h41
  have g40 : ¬ (s.data.toList.getD i 0).toNat = 40 := by rw [hg]; exact h40
  have g39 : ¬ (s.data.toList.getD i 0).toNat = 39 := by rw [hg]; exact h39
  have T0 := hide (rd_tok0 n s.data.toList op i g41 g40 g39)
  have TN := hide (rd_tokN n s.data.toList op i g41 g40 g39)
  have TS := hide (rd_tokS n s.data.toList op i g41 g40 g39)
  clear hg g41 g40 g39
  have c0 := cell_of_block hC 0
  have c1 := cell_of_block hC 1
  have f1 := frozen_of_block hC 1
  simp at c0 c1
  have b41 : ((s[i].toNat : Int) == 41) = false := by rw [beq_eq_false_iff_ne]; omega
  have b40 : ((s[i].toNat : Int) == 40) = false := by rw [beq_eq_false_iff_ne]; omega
  have b39 : ((s[i].toNat : Int) == 39) = false := by rw [beq_eq_false_iff_ne]; omega
  have HC := hide hC
  clear hC h41 h40 h39
  go_enter Tryz.func64, Tryz.ntmps64
  go_upto_block 1 with fail
  go_cut [8] (fun v wc => v = .int .i64 (tokEnd s.data.toList i) ∧ wc = w.alloc Z5)
  case first =>
    go_wp2_with fail
    go_loop [8] (fun v => ∃ k : Nat, i ≤ k ∧ k ≤ s.size ∧ v = .int .i64 k ∧ tokEnd s.data.toList k = tokEnd s.data.toList i) (fun v => s.size - (intOf v).toNat)
    case atStart => exact ⟨i, Nat.le_refl _, by omega, rfl, rfl⟩
    case round =>
      obtain ⟨k, hik, hk, rfl, hT⟩ := hrel
      have HT := hide hT
      clear hT
      by_cases hlt : k < s.size
      · by_cases hz : sortI s[k].toNat = 0
        · have HZ := hide (tok_stop s k hlt hz)
          have bz : (sortI s[k].toNat == 0) = true := by rw [beq_iff_eq]; exact hz
          clear hz
          go_wp2_with (go_at_call 107; refine (sort_any _ _).mono ?_; rintro e w' ⟨rfl, rfl⟩)
          go_meet
          case rel => exact ⟨by rw [← HT.out, HZ.out], rfl⟩
        · have HZ := hide (tok_go s k hlt hz)
          have bz : (sortI s[k].toNat == 0) = false := by rw [beq_eq_false_iff_ne]; exact hz
          clear hz
          go_wp2_with (go_at_call 107; refine (sort_any _ _).mono ?_; rintro e w' ⟨rfl, rfl⟩)
          go_round
          case rel => exact ⟨k + 1, by omega, by omega, by go_num, by rw [HZ.out]; exact HT.out⟩
          case measure => simp [intOf]; omega
      · have HZ := hide (tok_last s k (by omega))
        go_wp2
        go_meet
        case rel => exact ⟨by rw [← HT.out, HZ.out], rfl⟩
  case rest =>
    obtain ⟨rfl, rfl⟩ := hcut
    have hk2 : i ≤ tokEnd s.data.toList i := by unfold tokEnd; omega
    have hk1 := tokEnd_le s.data.toList i (by simp; omega)
    simp only [len_eq] at hk1
    generalize tokEnd s.data.toList i = k at *
    by_cases hki : k = i
    · subst hki
      have HRd := hide (T0.out rfl)
      go_wp2_with fail
      refine (wrong_any s k 0 0 2 k C _ (by exact heap_alloc_lt HC.out)).mono ?_
      rintro e w2 ⟨rfl, hC2, hU2⟩
      have hR2 := hU2.at (heap_alloc_new _ _) (by omega)
      have hUU := ((Upd.refl (fun k => k = C) w).alloc _).trans hU2 (fun _ _ h => h)
      have f0 := frozen_of_block hR2 0
      have f1 := frozen_of_block hR2 1
      have f2 := frozen_of_block hR2 2
      have f3 := frozen_of_block hR2 3
      have f4 := frozen_of_block hR2 4
      have r0 := cell_of_block hR2 0
      have r1 := cell_of_block hR2 1
      have r2 := cell_of_block hR2 2
      have r3 := cell_of_block hR2 3
      have r4 := cell_of_block hR2 4
      simp at r0 r1 r2 r3 r4
      have HR2 := hide hR2
      have HC2 := hide hC2
      have HUU := hide hUU
      clear hR2 hC2 hU2 hUU
      unfold rcells
      go_wp2
      refine ret5 Tryz.results64 rfl (set5_same _ _ _ _ _ HR2.out) rfl ?_
      exact wrong_fin hCl (by omega) HUU.out HR2.out HC2.out HRd.out
    · have bki : ((k : Int) == (i : Int)) = false := by rw [beq_eq_false_iff_ne]; omega
      have hk3 : (i : Int) ≤ (k : Int) := by omega
      have hk4 : (k : Int) ≤ (s.size : Int) := by omega
      have HTN := hide (TN.out hki)
      have HTS := hide (TS.out hki)
      have hsz : (s.extract i k).size = k - i := by simp; omega
      have hda : (s.extract i k).data.toList = (s.data.toList.drop i).take (k - i) := Lib.extract_data s i k
      have HTK := hide (token_any (s.extract i k) · (by omega) (by omega))
      have HDA := hide hda
      clear hki T0 TN TS hsz hda
      go_wp2_with fail
      refine (HTK.out _).mono ?_
      rintro e w2 ⟨⟨cs, ⟨k0, m0, s0, p0, rfl⟩, rfl, hat⟩, hB2⟩
      have hU2 := ((Upd.refl (fun k => k = C) w).alloc _).trans (Upd.of_below (fun k => k = C) hB2) (fun _ _ h => h)
      have hC2 := (Upd.of_below (fun _ => False) hB2).at (heap_alloc_lt HC.out) (fun h => h)
      have hR2 := (Upd.of_below (fun _ => False) hB2).at (heap_alloc_new _ _) (fun h => h)
      have HU2 := hide hU2
      have HR2 := hide hR2
      have HC2 := hide hC2
      have HAT := hide hat
      clear hU2 hB2 hat
      cases ht : tokD (s.extract i k).data.toList with
      | none =>
        have HRd := hide (HTN.out (by rw [← HDA.out]; exact ht))
        simp only [ht, Option.isSome_none]
        clear hC2 hR2 HTK HTN HTS HDA HAT
        unfold rcells
        go_wp2_with fail
        refine (wrong_any s i 0 0 2 i C _ (by exact heap_alloc_lt HC2.out)).mono ?_
        rintro e w3 ⟨rfl, hC3, hU3⟩
        have hR3 := hU3.at (heap_alloc_lt HR2.out) (by omega)
        have hUU := (HU2.out.alloc _).trans hU3 (fun _ _ h => h)
        have f0 := frozen_of_block hR3 0
        have f1 := frozen_of_block hR3 1
        have f2 := frozen_of_block hR3 2
        have f3 := frozen_of_block hR3 3
        have f4 := frozen_of_block hR3 4
        have r0 := cell_of_block hR3 0
        have r1 := cell_of_block hR3 1
        have r2 := cell_of_block hR3 2
        have r3 := cell_of_block hR3 3
        have r4 := cell_of_block hR3 4
        simp at r0 r1 r2 r3 r4
        have HR3 := hide hR3
        have HC3 := hide hC3
        have HUU := hide hUU
        clear hR3 hC3 hU3 hUU
        unfold rcells
        go_wp2
        refine ret5 Tryz.results64 rfl (set5_same _ _ _ _ _ HR3.out) rfl ?_
        exact wrong_fin hCl (by omega) HUU.out HR3.out HC3.out HRd.out
      | some d =>
        have HRd := hide (HTS.out d (by rw [← HDA.out]; exact ht))
        have hat := HAT.out d ht
        have HATD := hide hat
        simp only [ht, Option.isSome_some]
        have hlt2 : w.heap.size < w2.heap.size := lt_of_some hR2
        have hltC : C < w2.heap.size := lt_of_some hC2
        have hne : ¬ C = w.heap.size := by omega
        have c1 := cell_of_block hC2 1
        have fC := frozen_of_block hC2 1
        simp at c1
        have f0 := frozen_of_block hR2 0
        have f1 := frozen_of_block hR2 1
        have f2 := frozen_of_block hR2 2
        have f3 := frozen_of_block hR2 3
        have f4 := frozen_of_block hR2 4
        have r0 := cell_of_block hR2 0
        have r1 := cell_of_block hR2 1
        have r2 := cell_of_block hR2 2
        have r3 := cell_of_block hR2 3
        have r4 := cell_of_block hR2 4
        simp at r0 r1 r2 r3 r4
        clear hC2 hR2 HTK HTN HTS HDA HAT hat ht
        unfold rcells
        go_wp2
        have hUs := HU2.out.setCell ⟨C, 1, none⟩ (.int .i64 k) (fun _ => rfl)
        have hCs := heap_setCell_same (o := 1) (v := .int .i64 k) HC2.out
        have hRs := Upd.at ((Upd.refl (fun k => k = C) w2).setCell ⟨C, 1, none⟩ (.int .i64 k) (fun _ => rfl)) HR2.out (by omega)
        refine ret5 Tryz.results64 rfl (heap_alloc_lt (set5_same _ _ _ _ _ hRs)) rfl ?_
        refine CurPost.grow (cur_fin (g := d) (i' := k) (e' := 0) (a' := 0) hCl hUs hRs hCs ?_ ?_ ?_) (Upd.alloc0 _ _)
        · exact RV.atom _ _ (by omega) _ _ HATD.out
        · intro er p h
          rw [HRd.out] at h; cases h
        · intro d' k' h
          rw [HRd.out] at h; cases h
          exact ⟨rfl, rfl, rfl, rfl⟩

/-- datum, with one unit of fuel more. -/
theorem datum_at (s : ByteArray) (hs : s.size ≤ 1000) (n : Nat) (HD : DatumAt s n) (HL : ListAt s n) : DatumAt s (n + 1) := by
  intro C op i w ho hi hC hn
  by_cases h41 : s[i].toNat = 41
  · exact datum_wrong41 s hs n C op i w ho hi hC h41 (Or.inl rfl)
  by_cases h40 : s[i].toNat = 40
  · by_cases h20 : 20 ≤ op
    · exact datum_wrong40 s hs n C op i w ho hi hC h40 (Or.inr h20)
    · exact datum_open s hs n C op i w HL (by omega) hi hC h40 hn
  by_cases h39 : s[i].toNat = 39
  · by_cases h20 : 20 ≤ op
    · exact datum_wrong39 s hs n C op i w ho hi hC h39 (Or.inr h20)
    · exact datum_quote s hs n C op i w HD (by omega) hi hC h39 hn
  exact datum_tok s hs n C op i w ho hi hC h41 h40 h39

theorem cursor_all (s : ByteArray) (hs : s.size ≤ 1000) : ∀ n m, m ≤ n → DatumAt s m ∧ ListAt s m
  | 0, m, h => by
    obtain rfl : m = 0 := by omega
    exact ⟨fun C op i w _ hi _ hn => absurd hn (by omega), fun C op i w _ _ _ _ hn => absurd hn (by omega)⟩
  | n + 1, m, h => by
    have ih := cursor_all s hs n
    rcases Nat.lt_or_eq_of_le h with h | rfl
    · exact ih m (by omega)
    · exact ⟨datum_at s hs n (ih n (Nat.le_refl _)).1 (ih n (Nat.le_refl _)).2, list_at s hs (n + 1) (fun j hj => (ih j (by omega)).1)⟩
end Go.Proofs.YtlobegpjenabaaaGreatDoor

/- latheref.Read: the forms of a text, or what is wrong with it, and where. -/
namespace Go.Proofs.YtlobegpjenabaaaGreatDoor
open Go.RowKit
set_option linter.unusedSimpArgs false
set_option linter.unusedVariables false
attribute [local go_sem ↓] Go.wp_at_zero Go.wp_at_succ

/-- What a call of Read comes to. -/
def ReadPost (w : World) (r : Res (List D)) (e : Ending) (w' : World) : Prop :=
  Below w.heap.size w w' ∧ (∀ er p, r = .inl (er, p) → e = .returned (.tuple #[.slice none 0 0, .int .i64 er, .int .i64 (p : Nat)]) ∧ ¬ er = 0) ∧
    (∀ f, r = .inr f → ∃ v css, e = .returned (.tuple #[v, .int .i64 0, .int .i64 0]) ∧ Row5 w.heap.size w' v css ∧ RVs w' 21 css f ∧ f.length ≤ 1000)

def ReadRel (s : ByteArray) (w : World) (R : Res (List D)) (v : Value) (wr : World) (n i : Nat) (acc : List D) (css : List (Array Value)) : Prop :=
  i ≤ s.size ∧ s.size - i < n ∧ readS n s.data.toList i acc = R ∧ acc.length ≤ i ∧ wr.heap[w.heap.size]? = some (cur s i 0 0) ∧ Row5 (w.heap.size + 1) wr v css ∧ RVs wr 21 css acc ∧ Below w.heap.size w wr ∧ w.heap.size + 1 ≤ wr.heap.size

theorem readS_end (n : Nat) (l : List UInt8) (i : Nat) (acc : List D) (h : skipTo l i = l.length) : readS (n + 1) l i acc = .inr acc := by simp only [readS]; rw [if_pos h]
theorem readS_err (n : Nat) (l : List UInt8) (i : Nat) (acc : List D) (h : ¬ skipTo l i = l.length) (e : Int × Nat) (h3 : rd (2 * l.length + 2) l 0 (skipTo l i) none = .inl e) : readS (n + 1) l i acc = .inl e := by simp only [readS]; rw [if_neg h, h3]
theorem readS_ok (n : Nat) (l : List UInt8) (i : Nat) (acc : List D) (h : ¬ skipTo l i = l.length) (d : D) (k : Nat) (h3 : rd (2 * l.length + 2) l 0 (skipTo l i) none = .inr (d, k)) : readS (n + 1) l i acc = readS n l k (acc ++ [d]) := by simp only [readS]; rw [if_neg h, h3]

theorem read_round {s : ByteArray} {n i k : Nat} {w wr w2 w3 : World} {R : Res (List D)} {v v' : Value} {acc : List D} {css : List (Array Value)} {g : D} {k0 m0 : Int} {s0 : ByteArray} {p0 : Option Addr} {e a : Int}
    (h2 : k ≤ s.size) (h3 : s.size - k < n) (h4 : readS n s.data.toList k (acc ++ [g]) = R) (h5 : acc.length + 1 ≤ k) (hb : Below w.heap.size w wr)
    (hCr : wr.heap[w.heap.size]? = some (cur s i e a)) (hrow : Row5 (w.heap.size + 1) wr v css) (hrv : RVs wr 21 css acc) (hUW : Upd (fun j => j = w.heap.size) wr w2) (hC2 : w2.heap[w.heap.size]? = some (cur s k 0 0))
    (hg : RV w2 21 (rcells k0 m0 s0 p0) g) (hsz : w.heap.size + 1 ≤ wr.heap.size)
    (hu3 : Upd (fun j => v.ownBlock = some j) w2 w3) (ho : w3.ownsRow (w.heap.size + 1) 96 5 v' (css.length + 1) (flat css ++ [.int .i64 k0, .int .i64 m0, .string s0, .pointer p0, .pointer none])) :
    ReadRel s w R v' w3 n k (acc ++ [g]) (css ++ [rcells k0 m0 s0 p0]) := by
  have hrow2 : Row5 (w.heap.size + 1) w2 v css := row_keep hrow hUW (by omega)
  have hk3 : Keep 162 w2 w3 := Keep.of_upd hu3 (ownsRow_notPair hrow2 (by decide))
  have hkk := (cur_keep hCr hUW).trans hk3
  refine ⟨h2, h3, h4, by simpa using h5, hu3.at hC2 (fun h => by have := (ownsRow_ge hrow2 h).1; omega), ?_, ?_, ?_, ?_⟩
  · unfold Row5; rw [flat_snoc, List.length_append]; exact ho
  · exact RVs.append (RVs.keep hkk _ _ _ hrv) ⟨rfl, RV.keep hk3 _ _ _ hg, trivial⟩
  · exact (hb.trans (hUW.below hb.size (by intro k hk; omega))).trans (hu3.below (Nat.le_trans hb.size hUW.size) (fun j h => by have := (ownsRow_ge hrow2 h).1; omega))
  · have := hUW.size; have := hu3.size; omega

set_option maxRecDepth 100000 in
set_option maxHeartbeats 1000000 in
theorem read_any (s : ByteArray) (hs : s.size ≤ 1000) (w : World) : Calls Tryz.prog 44 #[.string s] w (ReadPost w (readS (s.data.toList.length + 1) s.data.toList 0 [])) := by
  have HDat := hide (cursor_all s hs (2 * s.size + 2) (2 * s.size + 2) (Nat.le_refl _)).1
  obtain ⟨i0, hinf, hz0, hz1, hz2⟩ := info_parts infoV
  have HI := hide (And.intro hinf (And.intro hz0 (And.intro hz1 hz2)))
  clear hinf hz0 hz1 hz2
  go_enter Tryz.func44, Tryz.ntmps44
  go_wp2
  go_loopw [6] (fun v wr => ∃ n i acc css, ReadRel s w (readS (s.data.toList.length + 1) s.data.toList 0 []) v wr n i acc css) (fun _ wr => s.size - curI w.heap.size wr)
  case atStart =>
    refine ⟨_, 0, [], [], Nat.zero_le _, by simp, rfl, Nat.le_refl _, heap_alloc_new _ _, Row5.nil _ _, trivial, (Below.refl _ _).alloc (Nat.le_refl _) _, by simp⟩
  case round =>
    obtain ⟨n, i, acc, css, hi, hfu, hrd, hal, hCr, hrow, hrvs, hb, hsz⟩ := hrel
    obtain ⟨n, rfl⟩ : ∃ m, n = m + 1 := ⟨n - 1, by omega⟩
    have c0 := cell_of_block hCr 0
    have c1 := cell_of_block hCr 1
    have f1 := frozen_of_block hCr 1
    simp at c0 c1
    have HCr := hide hCr
    have HRow := hide hrow
    have HRv := hide hrvs
    have HB := hide hb
    have HRd := hide hrd
    clear hCr hrow hrvs hb hrd
    go_wp2_with fail
    refine (skip_any s i _ hi hs).mono ?_
    rintro e w' ⟨rfl, rfl⟩
    have hj1 := skipTo_le s.data.toList i (by simpa using hi)
    have hj2 := le_skipTo s.data.toList i
    obtain ⟨j, hj⟩ : ∃ j, skipTo s.data.toList i = j := ⟨_, rfl⟩
    rw [hj] at hj1 hj2
    rw [hj]
    have Hj := hide hj
    clear hj
    simp at hj1
    by_cases hje : j = s.size
    · have bje : ((j : Int) == (s.size : Int)) = true := by rw [beq_iff_eq]; omega
      have HE := hide (readS_end n s.data.toList i acc (by rw [Hj.out, hje]; simp))
      clear hje
      go_wp2
      go_ret3
      have hu := (Upd.refl (fun k => k = w.heap.size) w').setCell ⟨w.heap.size, 1, none⟩ (.int .i64 j) (fun _ => rfl)
      refine ⟨HB.out.trans (hu.below HB.out.size (by intro k hk; omega)), ?_, ?_⟩
      · intro er p h; rw [← HRd.out, HE.out] at h; cases h
      · intro f h; rw [← HRd.out, HE.out] at h; cases h
        exact ⟨_, css, rfl, ownsRow_base (row_keep HRow.out hu (by omega)) (by omega), RVs.keep (cur_keep HCr.out hu) _ _ _ HRv.out, by omega⟩
    · have bje : ((j : Int) == (s.size : Int)) = false := by rw [beq_eq_false_iff_ne]; omega
      have hjs : j < s.size := by omega
      have Hne : Hid (¬ skipTo s.data.toList i = s.data.toList.length) := by show ¬ _; rw [Hj.out]; simpa using hje
      clear hje
      go_wp2_with fail
      have hu1 := (Upd.refl (fun k => k = w.heap.size) w').setCell ⟨w.heap.size, 1, none⟩ (.int .i64 j) (fun _ => rfl)
      have hC1 : (w'.setCell ⟨w.heap.size, 1, none⟩ (.int .i64 j)).heap[w.heap.size]? = some (cur s j 0 0) := heap_setCell_same HCr.out
      have HU1 := hide hu1
      have HC1 := hide hC1
      clear hu1 hC1
      refine (HDat.out w.heap.size 0 j _ (by omega) hjs (by exact HC1.out) (by omega)).mono ?_
      rintro e w2 ⟨cs, g, rfl, hRV2, hU2, i2, e2, a2, hC2, hin1, hin2⟩
      obtain ⟨k0, m0, s0, p0, rfl⟩ := RV.form _ _ _ hRV2
      have hUW := HU1.out.trans hU2 (fun _ _ h => h)
      have hsz2 := hUW.size
      have e2c := cell_of_block hC2 2
      have a2c := cell_of_block hC2 3
      simp at e2c a2c
      have hlt2 : w.heap.size < w2.heap.size := by omega
      cases hrd : rd (2 * s.size + 2) s.data.toList 0 j none with
      | inl ep =>
        obtain ⟨er, pp⟩ := ep
        obtain ⟨rfl, rfl⟩ := hin1 er pp hrd
        have hne0 := rd_err s.data.toList _ 0 j none e2 pp (by simp; omega) (fun _ => by simpa using hjs) (by simp; omega) hrd
        have bne0 : (e2 != 0) = true := by rw [bne_iff_ne]; exact hne0
        have HE := hide (readS_err n s.data.toList i acc Hne.out (e2, pp) (by rw [Hj.out, len_eq]; exact hrd))
        have HN0 := hide hne0
        have HUW := hide hUW
        clear hne0 hrd hin1 hin2 hRV2 hU2 hC2 hUW
        unfold rcells
        go_wp2_with fail
        go_quiet (fail)
        go_wp2
        go_ret3
        have hb2 := HB.out.trans ((((HUW.out.alloc (.cells #[.int .i64 k0, .int .i64 m0, .string s0, .pointer p0, .pointer none] 96)).drewN nq).below HB.out.size (by intro k hk; omega)))
        refine ⟨hb2, ?_, ?_⟩
        · intro er p h; rw [← HRd.out, HE.out] at h; cases h; exact ⟨rfl, HN0.out⟩
        · intro f h; rw [← HRd.out, HE.out] at h; cases h
      | inr dk =>
        obtain ⟨d, k⟩ := dk
        obtain ⟨rfl, rfl, rfl, rfl⟩ := hin2 d k hrd
        have hadv := rd_adv s.data.toList _ 0 j none g k (by simp; omega) (fun _ => by simpa using hjs) hrd
        simp only [len_eq] at hadv
        have hcl := HRv.out.length
        have hlen : css.length ≤ 1000 := by omega
        have hrow2 : Row5 (w.heap.size + 1) w2 u6 css := row_keep HRow.out hUW (by omega)
        have HRow2 := hide hrow2
        have HC2 := hide hC2
        have HUW := hide hUW
        have HRV2 := hide hRV2
        have HOK := hide (readS_ok n s.data.toList i acc Hne.out g k (by rw [Hj.out, len_eq]; exact hrd))
        clear hC2 hUW hRV2 hU2 hin1 hin2 hrd hrow2 hcl
        unfold rcells
        go_wp2_with (at_builtin; refine wpList_append_lies _ rfl (.tmp 43) (.tmp 45) 65 rfl (w.heap.size + 1) 96 i0 zero5 5 48 Tryz.underlying65 HI.out.1 HI.out.2.1 HI.out.2.2.1 HI.out.2.2.2 rfl (by decide) _ css.length (flat css) rfl ((HRow2.out.alloc _).alloc _) ⟨w2.heap.size + 1, 0, none⟩ 1 1 [.int .i64 k0, .int .i64 m0, .string s0, .pointer p0, .pointer none] rfl rfl (news5 (heap_alloc_new1 _ _ _)) (one5 _ _ _ _) (by decide) (by unfold maxLen; omega) (by omega) (by simp; omega) (w2.heap.size + 2) (by simp) ?_)
        intro g' cap w3 hown3 hgrow hat hlt3
        have H3 := seq_upd hgrow
        have HO3 := hide hown3
        have HU3 := hide H3
        clear hown3 hgrow hat H3
        go_wp2
        go_roundw
        case rel => exact ⟨n, k, acc ++ [g], css ++ [rcells k0 m0 s0 p0], read_round (by omega) (by omega) (by rw [← HRd.out, HOK.out]) (by omega) HB.out HCr.out HRow.out HRv.out HUW.out HC2.out HRV2.out hsz HU3.out HO3.out⟩
        case measure =>
          rw [curI_of HCr.out, curI_of (HU3.out.at HC2.out (fun h => by have := (ownsRow_ge HRow2.out h).1; omega))]
          simp; omega
end Go.Proofs.YtlobegpjenabaaaGreatDoor

/- latheref: keyword, variable, head. -/
namespace Go.Proofs.YtlobegpjenabaaaGreatDoor
open Go.RowKit
set_option linter.unusedSimpArgs false
set_option linter.unusedVariables false

theorem kwB_of (s : ByteArray) : kwB s.data.toList = (s.toList == [113, 117, 111, 116, 101] || (s.toList == [105, 102] || (s.toList == [100, 101, 102, 105, 110, 101] || (s.toList == [115, 101, 116, 33] || (s.toList == [108, 97, 109, 98, 100, 97] || (s.toList == [98, 101, 103, 105, 110] || s.toList == [108, 101, 116])))))) := by
  rw [ByteArray.toList_eq]
  simp only [kwB, kws, List.contains_cons, List.contains_nil, Bool.or_false]

set_option maxHeartbeats 1000000 in
theorem keyword_any (s : ByteArray) (w : World) :
    Calls Tryz.prog 109 #[.string s] w fun e w' => e = .returned (.bool (kwB s.data.toList)) ∧ w' = w := by
  have HK := hide (kwB_of s)
  go_enter Tryz.func109, Tryz.ntmps109
  go_wp2
  all_goals
    go_ret
    refine ⟨ret_bool ?_, rfl⟩
    rw [HK.out]
    clear HK
    first | (rename_i h; rw [h]; rfl) | simp only [Bool.or_assoc]

/-- The cells of a value, as it is handed over. -/
theorem var_atom (d : D) (k m : Int) (s : ByteArray) (p : Option Addr) (w : World) (n : Nat) (h : RV w n (rcells k m s p) d) : varD d = ((k == 3) && !(kwB s.data.toList)) ∧ (varD d = true → nameD d = s.data.toList) := by
  cases n with
  | zero => exact h.elim
  | succ n =>
    match d, h with
    | .agg [], h => have h : rcells k m s p = rcells 4 0 emptyB none := h.2; cases h; exact ⟨rfl, fun h => by cases h⟩
    | .agg (_ :: _), h => obtain ⟨b, c1, c2, h, _⟩ := h.2; cases h; exact ⟨rfl, fun h => by cases h⟩
    | .lit (.int q x), h => cases q <;> first | (cases h; done) | (have h : some _ = some (rcells k m s p) := h; cases h; exact ⟨rfl, fun h => by cases h⟩)
    | .lit (.bool b), h => have h : some _ = some (rcells k m s p) := h; cases h; exact ⟨rfl, fun h => by cases h⟩
    | .lit (.string t), h => have h : some _ = some (rcells k m s p) := h; cases h; exact ⟨rfl, fun _ => rfl⟩
    | .nil, h => have h : some _ = some (rcells k m s p) := h; cases h; exact ⟨rfl, fun h => by cases h⟩

set_option maxHeartbeats 1000000 in
theorem variable_any (k m : Int) (s : ByteArray) (p : Option Addr) (w : World) :
    Calls Tryz.prog 65 #[.agg (rcells k m s p)] w fun e w' => e = .returned (.bool ((k == 3) && !(kwB s.data.toList))) ∧ Below w.heap.size w w' := by
  unfold rcells
  by_cases hk : (k == 3) = true
  · go_enter Tryz.func65, Tryz.ntmps65
    go_wp2_with (go_at_call 109; refine (keyword_any _ _).mono ?_; rintro e w' ⟨rfl, rfl⟩)
    go_ret
    exact ⟨by rw [hk]; rfl, (Below.refl _ _).alloc (Nat.le_refl _) _⟩
  · have hk : (k == 3) = false := by simpa using hk
    go_enter Tryz.func65, Tryz.ntmps65
    go_wp2_with (go_at_call 109; refine (keyword_any _ _).mono ?_; rintro e w' ⟨rfl, rfl⟩)
    go_ret
    exact ⟨by rw [hk]; rfl, (Below.refl _ _).alloc (Nat.le_refl _) _⟩
theorem variable_rv (n : Nat) (d : D) (cs : Array Value) (w : World) (h : RV w n cs d) :
    Calls Tryz.prog 65 #[.agg cs] w fun e w' => e = .returned (.bool (varD d)) ∧ Below w.heap.size w w' := by
  obtain ⟨k, m, s, p, rfl⟩ := RV.form _ _ _ h
  rw [(var_atom d k m s p w n h).1]
  exact variable_any k m s p w

/-- A row of values that is read alone: it may begin anywhere in a block. -/
def RowRd (w : World) (v : Value) (css : List (Array Value)) : Prop :=
  ∃ a cap, v = .slice a css.length cap ∧ css.length ≤ cap ∧ cap ≤ maxLen ∧ (0 < css.length → ∃ g off, a = some ⟨g, off, none⟩ ∧ g < w.heap.size ∧ ∀ (j : Nat) u, (flat css)[j]? = some u → w.cell? ⟨g, off + j, none⟩ = some u)
theorem Row5.rd {B : Nat} {w : World} {v : Value} {css : List (Array Value)} (h : Row5 B w v css) : RowRd w v css := by
  obtain ⟨a, cap, hv, h1, h2, h3⟩ := ownsRow_slice h
  refine ⟨a, cap, hv, h1, h2, fun hp => ?_⟩
  obtain ⟨g, ha, _, hg, hc⟩ := h3 hp
  exact ⟨g, 0, ha, hg, fun j u hj => by rw [Nat.zero_add]; exact hc j u hj⟩
theorem RowRd.below {w w' : World} {v : Value} {css : List (Array Value)} (h : RowRd w v css) (hb : Below w.heap.size w w') : RowRd w' v css := by
  obtain ⟨a, cap, hv, h1, h2, h3⟩ := h
  refine ⟨a, cap, hv, h1, h2, fun hp => ?_⟩
  obtain ⟨g, off, ha, hg, hc⟩ := h3 hp
  exact ⟨g, off, ha, Nat.lt_of_lt_of_le hg hb.size, fun j u hj => by rw [hb.cell (p := ⟨g, off + j, none⟩) hg]; exact hc j u hj⟩
theorem RVs.below {w w' : World} {n : Nat} {css : List (Array Value)} {ds : List D} (h : RVs w n css ds) (hb : Below w.heap.size w w') : RVs w' n css ds := RVs.keep (Keep.of_below hb) _ _ _ h

theorem head_atom (d : D) (ds : List D) (k m : Int) (s : ByteArray) (p : Option Addr) (w : World) (n : Nat) (h : RV w n (rcells k m s p) d) :
    ((k == 3) = false → headK (d :: ds) = []) ∧ ((k == 3) = true → headK (d :: ds) = if kwB s.data.toList then s.data.toList else []) := by
  cases n with
  | zero => exact h.elim
  | succ n =>
    match d, h with
    | .agg [], h => have h : rcells k m s p = rcells 4 0 emptyB none := h.2; cases h; exact ⟨fun _ => rfl, fun h => by cases h⟩
    | .agg (_ :: _), h => obtain ⟨b, c1, c2, h, _⟩ := h.2; cases h; exact ⟨fun _ => rfl, fun h => by cases h⟩
    | .lit (.int q x), h => cases q <;> first | (cases h; done) | (have h : some _ = some (rcells k m s p) := h; cases h; exact ⟨fun _ => rfl, fun h => by cases h⟩)
    | .lit (.bool b), h => have h : some _ = some (rcells k m s p) := h; cases h; exact ⟨fun _ => rfl, fun h => by cases h⟩
    | .lit (.string t), h => have h : some _ = some (rcells k m s p) := h; cases h; exact ⟨(fun h => by cases h), fun _ => rfl⟩
    | .nil, h => have h : some _ = some (rcells k m s p) := h; cases h; exact ⟨fun _ => rfl, fun h => by cases h⟩

set_option maxHeartbeats 1000000 in
theorem head_any (n : Nat) (css : List (Array Value)) (ds : List D) (v : Value) (w : World) (hrow : RowRd w v css) (hds : RVs w n css ds) :
    Calls Tryz.prog 67 #[v] w fun e w' => e = .returned (.string ⟨(headK ds).toArray⟩) ∧ w' = w := by
  obtain ⟨a, cap, rfl, h1, h2, h3⟩ := hrow
  match css, ds, hds with
  | [], [], _ =>
    go_enter Tryz.func67, Tryz.ntmps67
    go_wp2
    go_ret
    exact ⟨rfl, rfl⟩
  | c :: cs, d :: ds, hds =>
    obtain ⟨g, off, rfl, hg, hc⟩ := h3 (by simp)
    obtain ⟨h5, hrv, _⟩ := hds
    obtain ⟨k, m, s, p, rfl⟩ := RV.form _ _ _ hrv
    have hva := var_atom d k m s p w n hrv
    have c0 : w.cell? ⟨g, off, none⟩ = some (.int .i64 k) := hc 0 (.int .i64 k) rfl
    have c2 := hc 2 (.string s) rfl
    have HK := hide (head_atom d ds k m s p w n hrv)
    have hlp : 0 < (rcells k m s p :: cs).length := by simp
    generalize (rcells k m s p :: cs).length = ln at *
    have hlp' : (0 : Int) < (ln : Int) := by omega
    clear hc h3 hva hrv h5
    by_cases hk : (k == 3) = true
    · cases hkw : kwB s.data.toList with
      | true =>
        have HKW := hide hkw
        go_enter Tryz.func67, Tryz.ntmps67
        go_wp2_with (go_at_call 109; refine (keyword_any _ _).mono ?_; rintro e w' ⟨rfl, rfl⟩)
        go_ret
        refine ⟨?_, rfl⟩
        rw [HK.out.2 hk, HKW.out]; rfl
      | false =>
        have HKW := hide hkw
        go_enter Tryz.func67, Tryz.ntmps67
        go_wp2_with (go_at_call 109; refine (keyword_any _ _).mono ?_; rintro e w' ⟨rfl, rfl⟩)
        go_ret
        refine ⟨?_, rfl⟩
        rw [HK.out.2 hk, HKW.out]; rfl
    · have hk : (k == 3) = false := by simpa using hk
      go_enter Tryz.func67, Tryz.ntmps67
      go_wp2
      go_ret
      refine ⟨?_, rfl⟩
      rw [HK.out.1 hk]; rfl
end Go.Proofs.YtlobegpjenabaaaGreatDoor
