/- Taken of any ints answers true. -/
import Derived.Test.YtlobegpjenabaaaGreatDoorQKpKtp
import Derived.Test.YtlobegpjenabaaaGreatDoorQKpPick
namespace Go.Proofs.YtlobegpjenabaaaGreatDoor
open Go.RowKit
set_option linter.unusedSimpArgs false
set_option linter.unusedVariables false

theorem takO_len (a : Int) (m : Nat) : (takO a m).length = m := by unfold takO; simp
theorem takO_at (a : Int) (m i : Nat) (ha : -100000 < a ∧ a < 100000) (hm : m ≤ 20) (hi : i < (takO a m).length) : (takO a m)[i] = Lib.itoa (a + (if i = 0 then 1 else (i : Int) * i)) := by
  have him : i < m := by rw [takO_len] at hi; exact hi
  have hsq : (i : Int) * i ≤ 400 ∧ 0 ≤ (i : Int) * i := by
    constructor
    · have := Int.mul_le_mul (show (i : Int) ≤ 20 by omega) (show (i : Int) ≤ 20 by omega) (by omega) (by omega)
      omega
    · exact Int.mul_nonneg (by omega) (by omega)
  have hin : -9223372036854775808 ≤ a + (if i = 0 then 1 else (i : Int) * i) ∧ a + (if i = 0 then 1 else (i : Int) * i) ≤ 9223372036854775807 := by split <;> omega
  have h1 : (takO a m)[i]? = some ((toldS (.int (w64 (a + (if i = 0 then 1 else (i : Int) * i))))).take 100) := by
    unfold takO
    rw [List.getElem?_map, List.getElem?_range him]; rfl
  rw [List.getElem?_eq_getElem hi] at h1
  rw [Option.some.inj h1, w64_of _ hin, told_int' _ hin]
set_option maxRecDepth 100000 in
set_option maxHeartbeats 4000000 in
theorem Taken_go (x y : Int) (hx : -9223372036854775808 ≤ x ∧ x ≤ 9223372036854775807) (hy : -9223372036854775808 ≤ y ∧ y ≤ 9223372036854775807) (w : World) (he : Env w) : Calls Tryz.prog 12 #[.int .i64 x, .int .i64 y] w (RckP w) := by
  have ma := tmod5 x
  have HE := hide he
  have HP := hide (pick_20 w y hy)
  obtain ⟨m, hm⟩ : ∃ m : Nat, pickS y 20 = (m : Int) := ⟨(pickS y 20).toNat, by have := (pickS_in y 20 (by omega)).1; omega⟩
  have hm20 : m < 20 := by have := (pickS_in y 20 (by omega)).2; omega
  rw [hm] at HP
  clear he hm
  go_enter Tryz.func12, Tryz.ntmps12
  go_wp2_with fail
  generalize x.tmod 100000 = a at ma ⊢
  have SA : Hid (Small a) := ⟨by omega, by omega⟩
  refine HP.out.mono ?_
  rintro e w' ⟨rfl, hw'⟩
  obtain rfl : w = w' := hw'.symm
  clear hw' HP
  go_wp2_with fail
  refine (digits_go (a) (by omega) (by omega) _).mono ?_
  rintro e w1 ⟨he, hb1⟩
  obtain ⟨z1, hz1⟩ : ∃ z : ByteArray, z = ⟨(Lib.itoa (a)).toArray⟩ := ⟨_, rfl⟩
  have sz1 : (z1.size : Int) ≤ 20 := by have := itoa_len (a) (by omega) (by omega); rw [hz1]; simp [ByteArray.size]; omega
  have Hz1 := hide hz1
  clear hz1
  rw [← Hz1.out] at he
  subst he
  have HB1 := hide hb1
  clear hb1
  go_wp2_with fail
  refine (digits_go (1 + (m : Int)) (by omega) (by omega) _).mono ?_
  rintro e w2 ⟨he, hb2⟩
  obtain ⟨z2, hz2⟩ : ∃ z : ByteArray, z = ⟨(Lib.itoa (1 + (m : Int))).toArray⟩ := ⟨_, rfl⟩
  have sz2 : (z2.size : Int) ≤ 20 := by have := itoa_len (1 + (m : Int)) (by omega) (by omega); rw [hz2]; simp [ByteArray.size]; omega
  have Hz2 := hide hz2
  clear hz2
  rw [← Hz2.out] at he
  subst he
  have HB2 := hide (HB1.out.trans (hb2.mono HB1.out.size))
  clear hb2 HB1
  have HS := hide (says_Tak a m SA.out hm20)
  rw [show ((m + 1 : Nat) : Int) = 1 + (m : Int) by omega] at HS
  go_wp2_with fail
  refine (says_says HS.out (by simp [TakT, Hz1.out, Hz2.out]) _ (HE.out.below HB2.out)).mono ?_
  rintro e w3 ⟨vo, rfl, hvo, hb3⟩
  obtain ⟨ao, co, rfl, hco⟩ := row_strs hvo
  have hol := takO_len a (m + 1)
  have HCO : Hid (∀ i, i < m + 1 → ∃ g, ao = some ⟨g, 0, none⟩ ∧ g < w3.heap.size ∧ w3.cell? ⟨g, i, none⟩ = some (.string ⟨(Lib.itoa (a + (if i = 0 then 1 else (i : Int) * i))).toArray⟩)) := fun i hi => by
    obtain ⟨g, h1, h2, h3⟩ := hco i (by rw [hol]; exact hi)
    rw [takO_at a (m + 1) i ma (by omega)] at h3
    exact ⟨g, h1, h2, h3⟩
  have HB3 := hide (HB2.out.trans (hb3.mono HB2.out.size))
  clear hb3 HB2
  clear hvo hco
  obtain ⟨N, hN⟩ : ∃ N, N = (takO a (m + 1)).length := ⟨_, rfl⟩
  rw [← hN]
  rw [← hN] at hol
  have HN := hide hN
  have hnm : (N : Int) = 1 + (m : Int) := by omega
  have HOL := hide hol
  clear hN hol
  go_wp2
  have hzw := HB3.out.size
  go_loopw [4, 11, 12] (fun r i u wr => ∃ q : Nat, q ≤ m + 1 ∧ i = .int .i64 q ∧ Below w3.heap.size w3 wr) (fun _ i _ _ => m + 1 - (intOf i).toNat)
  case atStart => exact ⟨0, by omega, rfl, Below.refl _ _⟩
  case round =>
    obtain ⟨q, hq, rfl, hb⟩ := hrel
    have HB := hide hb
    have hbz := hb.size
    by_cases hlt : q < m + 1
    · have hlt2 : (q : Int) < 1 + (m : Int) := by omega
      have hsq : (q : Int) * q ≤ 400 ∧ 0 ≤ (q : Int) * q := by
        constructor
        · have := Int.mul_le_mul (show (q : Int) ≤ 20 by omega) (show (q : Int) ≤ 20 by omega) (by omega) (by omega)
          omega
        · exact Int.mul_nonneg (by omega) (by omega)
      obtain ⟨g, rfl, hg, hc⟩ := HCO.out q hlt
      have d0 := (hb.cell (p := ⟨g, q, none⟩) hg).trans hc
      have hgr : g < wr.heap.size := by omega
      have hqN : (q : Int) < (N : Int) := by have := HOL.out; omega
      have hqw : IntKind.i64.wrap (a + (q : Int) * q) = a + (q : Int) * q := by rw [IntKind.wrap_i64]; omega
      have hqz : (0 : Int) ≤ (q : Int) := by omega
      have hqN2 : q < N := by have := HOL.out; omega
      by_cases h0 : q = 0
      · subst h0
        rw [if_pos rfl] at d0
        obtain ⟨s, hs⟩ : ∃ s : ByteArray, s = ⟨(Lib.itoa (a + 1)).toArray⟩ := ⟨_, rfl⟩
        rw [← hs] at d0
        have HDG : Hid (Calls Tryz.prog 18 #[.int .i64 (a + 1)] wr.drew fun e W => e = .returned (.string s) ∧ W.cell? ⟨g, 0, none⟩ = some (.string s) ∧ Below w3.heap.size w3 W) := (digits_go (a + 1) (by omega) (by omega) wr.drew).mono fun e W ⟨h1, h2⟩ => ⟨by rw [hs]; exact h1, (h2.cell (p := ⟨g, 0, none⟩) hgr).trans d0, HB.out.drew.trans (h2.mono hbz)⟩
        clear hs hc hb
        go_wp2_with fail
        go_region_held3 (fun wx => wx.cell? ⟨g, 0, none⟩ = some (.string s)) (first | go_keep | assumption) (first | (go_at_call 18; refine HDG.out.mono ?_; rintro e W ⟨rfl, hcw, hbw⟩))
        all_goals (go_wp2; go_roundw)
        case rel => exact ⟨0 + 1, by omega, rfl, by assumption⟩
        case measure => simp [intOf]; try omega
      · have hq0 : ((q : Int) == 0) = false := by simp; omega
        rw [if_neg h0] at d0
        obtain ⟨s, hs⟩ : ∃ s : ByteArray, s = ⟨(Lib.itoa (a + (q : Int) * q)).toArray⟩ := ⟨_, rfl⟩
        rw [← hs] at d0
        have HDG : Hid (Calls Tryz.prog 18 #[.int .i64 (a + (q : Int) * q)] wr.drew fun e W => e = .returned (.string s) ∧ W.cell? ⟨g, q, none⟩ = some (.string s) ∧ Below w3.heap.size w3 W) := (digits_go (a + (q : Int) * q) (by omega) (by omega) wr.drew).mono fun e W ⟨h1, h2⟩ => ⟨by rw [hs]; exact h1, (h2.cell (p := ⟨g, q, none⟩) hgr).trans d0, HB.out.drew.trans (h2.mono hbz)⟩
        clear hs hc hb
        go_wp2_with fail
        go_region_held3 (fun wx => wx.cell? ⟨g, q, none⟩ = some (.string s)) (first | go_keep | assumption) (first | (go_at_call 18; refine HDG.out.mono ?_; rintro e W ⟨rfl, hcw, hbw⟩))
        all_goals (go_wp2; go_roundw)
        case rel => exact ⟨q + 1, by omega, rfl, by assumption⟩
        case measure => simp [intOf]; try omega
    · have hqe : q = m + 1 := by omega
      subst hqe
      have hnl : ¬ (((m + 1 : Nat) : Int) < 1 + (m : Int)) := by omega
      clear hb
      go_wp2
      go_ret
      exact ⟨rfl, HB3.out.trans (HB.out.mono hzw)⟩
end Go.Proofs.YtlobegpjenabaaaGreatDoor
