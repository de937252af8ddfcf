/- latheref: the cursor's datum: a token. -/
import Derived.Test.YtlobegpjenabaaaGreatDoorRefQuo
import Derived.Lib.Strings
import Derived.Deep.CutBlock
namespace Go.Proofs.YtlobegpjenabaaaGreatDoor
open Go.RowKit
set_option linter.unusedSimpArgs false
set_option linter.unusedVariables false

theorem tok_stop (s : ByteArray) (k : Nat) (h : k < s.size) (c : sortI s[k].toNat = 0) : tokEnd s.data.toList k = k := by
  simp only [tokEnd]; rw [drop_at s k h]; simp only [tokN]; rw [if_pos (show sortU s[k] = 0 from c)]; rfl
theorem tok_go (s : ByteArray) (k : Nat) (h : k < s.size) (c : ¬ sortI s[k].toNat = 0) : tokEnd s.data.toList (k + 1) = tokEnd s.data.toList k := by
  simp only [tokEnd]; rw [drop_at s k h]; simp only [tokN]; rw [if_neg (show ¬ sortU s[k] = 0 from c)]; omega
theorem tok_last (s : ByteArray) (k : Nat) (h : s.size ≤ k) : tokEnd s.data.toList k = k := by
  simp only [tokEnd]; rw [drop_end s k h]; rfl

theorem rd_tok0 (n : Nat) (l : List UInt8) (op i : Nat) (h1 : ¬ (l.getD i 0).toNat = 41) (h2 : ¬ (l.getD i 0).toNat = 40) (h3 : ¬ (l.getD i 0).toNat = 39) (h : tokEnd l i = i) : rd (n + 1) l op i none = .inl (2, i) := by
  rw [rd_tok n l op i h1 h2 h3, if_pos h]
theorem rd_tokN (n : Nat) (l : List UInt8) (op i : Nat) (h1 : ¬ (l.getD i 0).toNat = 41) (h2 : ¬ (l.getD i 0).toNat = 40) (h3 : ¬ (l.getD i 0).toNat = 39) (h : ¬ tokEnd l i = i) (ht : tokD ((l.drop i).take (tokEnd l i - i)) = none) : rd (n + 1) l op i none = .inl (2, i) := by
  rw [rd_tok n l op i h1 h2 h3, if_neg h, ht]
theorem rd_tokS (n : Nat) (l : List UInt8) (op i : Nat) (h1 : ¬ (l.getD i 0).toNat = 41) (h2 : ¬ (l.getD i 0).toNat = 40) (h3 : ¬ (l.getD i 0).toNat = 39) (h : ¬ tokEnd l i = i) (d : D) (ht : tokD ((l.drop i).take (tokEnd l i - i)) = some d) : rd (n + 1) l op i none = .inr (d, tokEnd l i) := by
  rw [rd_tok n l op i h1 h2 h3, if_neg h, ht]

theorem RV.atom (w : World) (n : Nat) (h : 0 < n) (cs : Array Value) : ∀ (d : D), atomR d = some cs → RV w n cs d := by
  obtain ⟨m, rfl⟩ : ∃ m, n = m + 1 := ⟨n - 1, by omega⟩
  intro d hd
  cases d with
  | agg l => cases hd
  | _ => exact hd

set_option maxRecDepth 100000 in
set_option maxHeartbeats 1000000 in
theorem datum_tok (s : ByteArray) (hs : s.size ≤ 1000) (n C op i : Nat) (w : World) (ho : op ≤ 20) (hi : i < s.size) (hC : w.heap[C]? = some (cur s i 0 0)) (h41 : ¬ s[i].toNat = 41) (h40 : ¬ s[i].toNat = 40) (h39 : ¬ s[i].toNat = 39) :
    Calls Tryz.prog 64 #[.pointer (some ⟨C, 0, none⟩), .int .i64 op] w (CurPost s C w (21 - op) (rd (n + 1) s.data.toList op i none)) := by
  have hCl := lt_of_some hC
  have hg := at_getD s i hi
  have g41 : ¬ (s.data.toList.getD i 0).toNat = 41 := by rw [hg]; exact h41
  have g40 : ¬ (s.data.toList.getD i 0).toNat = 40 := by rw [hg]; exact h40
  have g39 : ¬ (s.data.toList.getD i 0).toNat = 39 := by rw [hg]; exact h39
  have T0 := hide (rd_tok0 n s.data.toList op i g41 g40 g39)
  have TN := hide (rd_tokN n s.data.toList op i g41 g40 g39)
  have TS := hide (rd_tokS n s.data.toList op i g41 g40 g39)
  clear hg g41 g40 g39
  have c0 := cell_of_block hC 0
  have c1 := cell_of_block hC 1
  have f1 := frozen_of_block hC 1
  simp at c0 c1
  have b41 : ((s[i].toNat : Int) == 41) = false := by rw [beq_eq_false_iff_ne]; omega
  have b40 : ((s[i].toNat : Int) == 40) = false := by rw [beq_eq_false_iff_ne]; omega
  have b39 : ((s[i].toNat : Int) == 39) = false := by rw [beq_eq_false_iff_ne]; omega
  have HC := hide hC
  clear hC h41 h40 h39
  go_enter Tryz.func64, Tryz.ntmps64
  go_upto_block 1 with fail
  go_cut [8] (fun v wc => v = .int .i64 (tokEnd s.data.toList i) ∧ wc = w.alloc Z5)
  case first =>
    go_wp2_with fail
    go_loop [8] (fun v => ∃ k : Nat, i ≤ k ∧ k ≤ s.size ∧ v = .int .i64 k ∧ tokEnd s.data.toList k = tokEnd s.data.toList i) (fun v => s.size - (intOf v).toNat)
    case atStart => exact ⟨i, Nat.le_refl _, by omega, rfl, rfl⟩
    case round =>
      obtain ⟨k, hik, hk, rfl, hT⟩ := hrel
      have HT := hide hT
      clear hT
      by_cases hlt : k < s.size
      · by_cases hz : sortI s[k].toNat = 0
        · have HZ := hide (tok_stop s k hlt hz)
          have bz : (sortI s[k].toNat == 0) = true := by rw [beq_iff_eq]; exact hz
          clear hz
          go_wp2_with (go_at_call 107; refine (sort_any _ _).mono ?_; rintro e w' ⟨rfl, rfl⟩)
          go_meet
          case rel => exact ⟨by rw [← HT.out, HZ.out], rfl⟩
        · have HZ := hide (tok_go s k hlt hz)
          have bz : (sortI s[k].toNat == 0) = false := by rw [beq_eq_false_iff_ne]; exact hz
          clear hz
          go_wp2_with (go_at_call 107; refine (sort_any _ _).mono ?_; rintro e w' ⟨rfl, rfl⟩)
          go_round
          case rel => exact ⟨k + 1, by omega, by omega, by go_num, by rw [HZ.out]; exact HT.out⟩
          case measure => simp [intOf]; omega
      · have HZ := hide (tok_last s k (by omega))
        go_wp2
        go_meet
        case rel => exact ⟨by rw [← HT.out, HZ.out], rfl⟩
  case rest =>
    obtain ⟨rfl, rfl⟩ := hcut
    have hk2 : i ≤ tokEnd s.data.toList i := by unfold tokEnd; omega
    have hk1 := tokEnd_le s.data.toList i (by simp; omega)
    simp only [len_eq] at hk1
    generalize tokEnd s.data.toList i = k at *
    by_cases hki : k = i
    · subst hki
      have HRd := hide (T0.out rfl)
      go_wp2_with fail
      refine (wrong_any s k 0 0 2 k C _ (by exact heap_alloc_lt HC.out)).mono ?_
      rintro e w2 ⟨rfl, hC2, hU2⟩
      have hR2 := hU2.at (heap_alloc_new _ _) (by omega)
      have hUU := ((Upd.refl (fun k => k = C) w).alloc _).trans hU2 (fun _ _ h => h)
      have f0 := frozen_of_block hR2 0
      have f1 := frozen_of_block hR2 1
      have f2 := frozen_of_block hR2 2
      have f3 := frozen_of_block hR2 3
      have f4 := frozen_of_block hR2 4
      have r0 := cell_of_block hR2 0
      have r1 := cell_of_block hR2 1
      have r2 := cell_of_block hR2 2
      have r3 := cell_of_block hR2 3
      have r4 := cell_of_block hR2 4
      simp at r0 r1 r2 r3 r4
      have HR2 := hide hR2
      have HC2 := hide hC2
      have HUU := hide hUU
      clear hR2 hC2 hU2 hUU
      unfold rcells
      go_wp2
      refine ret5 Tryz.results64 rfl (set5_same _ _ _ _ _ HR2.out) rfl ?_
      exact wrong_fin hCl (by omega) HUU.out HR2.out HC2.out HRd.out
    · have bki : ((k : Int) == (i : Int)) = false := by rw [beq_eq_false_iff_ne]; omega
      have hk3 : (i : Int) ≤ (k : Int) := by omega
      have hk4 : (k : Int) ≤ (s.size : Int) := by omega
      have HTN := hide (TN.out hki)
      have HTS := hide (TS.out hki)
      have hsz : (s.extract i k).size = k - i := by simp; omega
      have hda : (s.extract i k).data.toList = (s.data.toList.drop i).take (k - i) := Lib.extract_data s i k
      have HTK := hide (token_any (s.extract i k) · (by omega) (by omega))
      have HDA := hide hda
      clear hki T0 TN TS hsz hda
      go_wp2_with fail
      refine (HTK.out _).mono ?_
      rintro e w2 ⟨⟨cs, ⟨k0, m0, s0, p0, rfl⟩, rfl, hat⟩, hB2⟩
      have hU2 := ((Upd.refl (fun k => k = C) w).alloc _).trans (Upd.of_below (fun k => k = C) hB2) (fun _ _ h => h)
      have hC2 := (Upd.of_below (fun _ => False) hB2).at (heap_alloc_lt HC.out) (fun h => h)
      have hR2 := (Upd.of_below (fun _ => False) hB2).at (heap_alloc_new _ _) (fun h => h)
      have HU2 := hide hU2
      have HR2 := hide hR2
      have HC2 := hide hC2
      have HAT := hide hat
      clear hU2 hB2 hat
      cases ht : tokD (s.extract i k).data.toList with
      | none =>
        have HRd := hide (HTN.out (by rw [← HDA.out]; exact ht))
        simp only [ht, Option.isSome_none]
        clear hC2 hR2 HTK HTN HTS HDA HAT
        unfold rcells
        go_wp2_with fail
        refine (wrong_any s i 0 0 2 i C _ (by exact heap_alloc_lt HC2.out)).mono ?_
        rintro e w3 ⟨rfl, hC3, hU3⟩
        have hR3 := hU3.at (heap_alloc_lt HR2.out) (by omega)
        have hUU := (HU2.out.alloc _).trans hU3 (fun _ _ h => h)
        have f0 := frozen_of_block hR3 0
        have f1 := frozen_of_block hR3 1
        have f2 := frozen_of_block hR3 2
        have f3 := frozen_of_block hR3 3
        have f4 := frozen_of_block hR3 4
        have r0 := cell_of_block hR3 0
        have r1 := cell_of_block hR3 1
        have r2 := cell_of_block hR3 2
        have r3 := cell_of_block hR3 3
        have r4 := cell_of_block hR3 4
        simp at r0 r1 r2 r3 r4
        have HR3 := hide hR3
        have HC3 := hide hC3
        have HUU := hide hUU
        clear hR3 hC3 hU3 hUU
        unfold rcells
        go_wp2
        refine ret5 Tryz.results64 rfl (set5_same _ _ _ _ _ HR3.out) rfl ?_
        exact wrong_fin hCl (by omega) HUU.out HR3.out HC3.out HRd.out
      | some d =>
        have HRd := hide (HTS.out d (by rw [← HDA.out]; exact ht))
        have hat := HAT.out d ht
        have HATD := hide hat
        simp only [ht, Option.isSome_some]
        have hlt2 : w.heap.size < w2.heap.size := lt_of_some hR2
        have hltC : C < w2.heap.size := lt_of_some hC2
        have hne : ¬ C = w.heap.size := by omega
        have c1 := cell_of_block hC2 1
        have fC := frozen_of_block hC2 1
        simp at c1
        have f0 := frozen_of_block hR2 0
        have f1 := frozen_of_block hR2 1
        have f2 := frozen_of_block hR2 2
        have f3 := frozen_of_block hR2 3
        have f4 := frozen_of_block hR2 4
        have r0 := cell_of_block hR2 0
        have r1 := cell_of_block hR2 1
        have r2 := cell_of_block hR2 2
        have r3 := cell_of_block hR2 3
        have r4 := cell_of_block hR2 4
        simp at r0 r1 r2 r3 r4
        clear hC2 hR2 HTK HTN HTS HDA HAT hat ht
        unfold rcells
        go_wp2
        have hUs := HU2.out.setCell ⟨C, 1, none⟩ (.int .i64 k) (fun _ => rfl)
        have hCs := heap_setCell_same (o := 1) (v := .int .i64 k) HC2.out
        have hRs := Upd.at ((Upd.refl (fun k => k = C) w2).setCell ⟨C, 1, none⟩ (.int .i64 k) (fun _ => rfl)) HR2.out (by omega)
        refine ret5 Tryz.results64 rfl (heap_alloc_lt (set5_same _ _ _ _ _ hRs)) rfl ?_
        refine CurPost.grow (cur_fin (g := d) (i' := k) (e' := 0) (a' := 0) hCl hUs hRs hCs ?_ ?_ ?_) (Upd.alloc0 _ _)
        · exact RV.atom _ _ (by omega) _ _ HATD.out
        · intro er p h
          rw [HRd.out] at h; cases h
        · intro d' k' h
          rw [HRd.out] at h; cases h
          exact ⟨rfl, rfl, rfl, rfl⟩

/-- datum, with one unit of fuel more. -/
theorem datum_at (s : ByteArray) (hs : s.size ≤ 1000) (n : Nat) (HD : DatumAt s n) (HL : ListAt s n) : DatumAt s (n + 1) := by
  intro C op i w ho hi hC hn
  by_cases h41 : s[i].toNat = 41
  · exact datum_wrong41 s hs n C op i w ho hi hC h41 (Or.inl rfl)
  by_cases h40 : s[i].toNat = 40
  · by_cases h20 : 20 ≤ op
    · exact datum_wrong40 s hs n C op i w ho hi hC h40 (Or.inr h20)
    · exact datum_open s hs n C op i w HL (by omega) hi hC h40 hn
  by_cases h39 : s[i].toNat = 39
  · by_cases h20 : 20 ≤ op
    · exact datum_wrong39 s hs n C op i w ho hi hC h39 (Or.inr h20)
    · exact datum_quote s hs n C op i w HD (by omega) hi hC h39 hn
  exact datum_tok s hs n C op i w ho hi hC h41 h40 h39

theorem cursor_all (s : ByteArray) (hs : s.size ≤ 1000) : ∀ n m, m ≤ n → DatumAt s m ∧ ListAt s m
  | 0, m, h => by
    obtain rfl : m = 0 := by omega
    exact ⟨fun C op i w _ hi _ hn => absurd hn (by omega), fun C op i w _ _ _ _ hn => absurd hn (by omega)⟩
  | n + 1, m, h => by
    have ih := cursor_all s hs n
    rcases Nat.lt_or_eq_of_le h with h | rfl
    · exact ih m (by omega)
    · exact ⟨datum_at s hs n (ih n (Nat.le_refl _)).1 (ih n (Nat.le_refl _)).2, list_at s hs (n + 1) (fun j hj => (ih j (by omega)).1)⟩
end Go.Proofs.YtlobegpjenabaaaGreatDoor
