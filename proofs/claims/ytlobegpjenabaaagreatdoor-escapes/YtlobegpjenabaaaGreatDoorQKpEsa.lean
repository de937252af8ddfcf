/- Escapes of any ints answers true. -/
import Derived.Test.YtlobegpjenabaaaGreatDoorQKpEsc
namespace Go.Proofs.YtlobegpjenabaaaGreatDoor
open Go.RowKit
set_option linter.unusedSimpArgs false
set_option linter.unusedVariables false

theorem firstNeg_len (l : List Int) (h : ∀ k ∈ l, (Lib.itoa k).length ≤ 20) : (firstNeg l).length ≤ 20 := by
  induction l with
  | nil => simp [firstNeg]
  | cons k r ih =>
    rw [firstNeg]
    split
    · exact h k List.mem_cons_self
    · exact ih fun x hx => h x (List.mem_cons_of_mem _ hx)
/-- What is found of the last ones. -/
def fnd (a b c : Int) : Nat → List Int
  | 0 => []
  | 1 => [c]
  | 2 => [b, c]
  | _ => [a, b, c]
set_option maxRecDepth 100000 in
set_option maxHeartbeats 4000000 in
theorem Escapes_no (x y z : Int) (hx : -9223372036854775808 ≤ x ∧ x ≤ 9223372036854775807) (hy : -9223372036854775808 ≤ y ∧ y ≤ 9223372036854775807) (hz : -9223372036854775808 ≤ z ∧ z ≤ 9223372036854775807) (w : World) (he : Env w) : Calls Tryz.prog 11 #[.int .i64 x, .int .i64 y, .int .i64 z, .bool false] w (RckP w) := by
  have ma := tmod5 x
  have mb := tmod5 y
  have mc := tmod5 z
  have HE := hide he
  clear he
  go_enter Tryz.func11, Tryz.ntmps11
  go_wp2_with fail
  generalize z.tmod 100000 = c at mc ⊢
  generalize y.tmod 100000 = b at mb ⊢
  generalize x.tmod 100000 = a at ma ⊢
  have SA : Hid (Small a) := ⟨by omega, by omega⟩
  have SB : Hid (Small b) := ⟨by omega, by omega⟩
  have SC : Hid (Small c) := ⟨by omega, by omega⟩
  refine (digits_go (b) (by omega) (by omega) _).mono ?_
  rintro e w1 ⟨he, hb1⟩
  obtain ⟨z1, hz1⟩ : ∃ z : ByteArray, z = ⟨(Lib.itoa (b)).toArray⟩ := ⟨_, rfl⟩
  have sz1 : (z1.size : Int) ≤ 20 := by have := itoa_len (b) (by omega) (by omega); rw [hz1]; simp [ByteArray.size]; omega
  have Hz1 := hide hz1
  clear hz1
  rw [← Hz1.out] at he
  subst he
  have HB1 := hide hb1
  clear hb1
  go_wp2_with fail
  refine (digits_go (c) (by omega) (by omega) _).mono ?_
  rintro e w2 ⟨he, hb2⟩
  obtain ⟨z2, hz2⟩ : ∃ z : ByteArray, z = ⟨(Lib.itoa (c)).toArray⟩ := ⟨_, rfl⟩
  have sz2 : (z2.size : Int) ≤ 20 := by have := itoa_len (c) (by omega) (by omega); rw [hz2]; simp [ByteArray.size]; omega
  have Hz2 := hide hz2
  clear hz2
  rw [← Hz2.out] at he
  subst he
  have HB2 := hide (HB1.out.trans (hb2.mono HB1.out.size))
  clear hb2 HB1
  go_wp2_with fail
  refine (digits_go (a) (by omega) (by omega) _).mono ?_
  rintro e w3 ⟨he, hb3⟩
  obtain ⟨z3, hz3⟩ : ∃ z : ByteArray, z = ⟨(Lib.itoa (a)).toArray⟩ := ⟨_, rfl⟩
  have sz3 : (z3.size : Int) ≤ 20 := by have := itoa_len (a) (by omega) (by omega); rw [hz3]; simp [ByteArray.size]; omega
  have Hz3 := hide hz3
  clear hz3
  rw [← Hz3.out] at he
  subst he
  have HB3 := hide (HB2.out.trans (hb3.mono HB2.out.size))
  clear hb3 HB2
  go_wp2_with fail
  refine (spelled_go [a, b, c] _ (some ⟨w3.heap.size, 0, none⟩) 3 (by simp) (by intro q hq; simp at hq; rcases hq with rfl | rfl | rfl <;> omega) (three_at _ a b c)).mono ?_
  rintro e w4 ⟨he, hb4⟩
  obtain ⟨zs, hzs⟩ : ∃ z : ByteArray, z = ⟨(spellS [a, b, c]).toArray⟩ := ⟨_, rfl⟩
  have szs : (zs.size : Int) ≤ 100 := by
    have h := spellS_len [a, b, c] (by intro q hq; simp at hq; rcases hq with rfl | rfl | rfl <;> exact itoa_len _ (by omega) (by omega))
    simp only [List.length_cons, List.length_nil] at h
    have h2 : zs.size = (spellS [a, b, c]).length := by rw [hzs]; rfl
    omega
  have HZS := hide hzs
  rw [← hzs] at he
  subst he
  clear hzs
  have HB4 := hide ((HB3.out.alloc HB3.out.size _).trans (hb4.mono (by have := HB3.out.size; simp; omega)))
  clear hb4 HB3
  go_wp2
  have hzw := HB4.out.size
  go_loopw [16, 18] (fun u i wr => ∃ (q : Nat) (y : ByteArray), q ≤ 3 ∧ i = .int .i64 q ∧ u = .string y ∧ y.data.toList = firstNeg (fnd a b c q) ∧ Below (w4.heap.size + 1) (w4.alloc (.cells #[.int .i64 c, .int .i64 b, .int .i64 a] 3)) wr) (fun _ i _ => 3 - (intOf i).toNat)
  case atStart => exact ⟨0, ⟨#[110, 111, 110, 101]⟩, by omega, rfl, rfl, rfl, Below.refl _ _⟩
  case round =>
    obtain ⟨q, y, hq, rfl, rfl, hy, hb⟩ := hrel
    have d0 := (hb.cell (p := ⟨w4.heap.size, 0, none⟩) (Nat.lt_succ_self _)).trans ((World.cell?_alloc_at _ _ _ _ (by simp)).trans rfl)
    have d1 := (hb.cell (p := ⟨w4.heap.size, 1, none⟩) (Nat.lt_succ_self _)).trans ((World.cell?_alloc_at _ _ _ _ (by simp)).trans rfl)
    have d2 := (hb.cell (p := ⟨w4.heap.size, 2, none⟩) (Nat.lt_succ_self _)).trans ((World.cell?_alloc_at _ _ _ _ (by simp)).trans rfl)
    have HY := hide hy
    have HB := hide hb
    have hbz := hb.size
    simp only [List.getElem?_toArray, List.getElem?_cons_zero, List.getElem?_cons_succ] at d0 d1 d2
    clear hy hb
    have hq3 : q = 0 ∨ q = 1 ∨ q = 2 ∨ q = 3 := by omega
    rcases hq3 with rfl | rfl | rfl | rfl
    · by_cases hs : c < 0
      · go_wp2_with fail
        refine (digits_go c (by omega) (by omega) _).mono ?_
        rintro e w9 ⟨he, hb9⟩
        rw [← Hz2.out] at he
        subst he
        have HB9 := hide hb9
        clear hb9
        go_wp2
        go_roundw
        case rel => exact ⟨1, z2, by omega, rfl, rfl, by rw [Hz2.out]; exact (if_pos hs).symm, HB.out.trans (HB9.out.mono (by have := HB.out.size; simp at this; omega))⟩
        case measure => simp [intOf]
      · have hs2 : 0 ≤ c := by omega
        go_wp2
        go_roundw
        case rel => exact ⟨1, y, by omega, rfl, rfl, by rw [HY.out]; exact (if_neg hs).symm, HB.out⟩
        case measure => simp [intOf]
    · by_cases hs : b < 0
      · go_wp2_with fail
        refine (digits_go b (by omega) (by omega) _).mono ?_
        rintro e w9 ⟨he, hb9⟩
        rw [← Hz1.out] at he
        subst he
        have HB9 := hide hb9
        clear hb9
        go_wp2
        go_roundw
        case rel => exact ⟨2, z1, by omega, rfl, rfl, by rw [Hz1.out]; exact (if_pos hs).symm, HB.out.trans (HB9.out.mono (by have := HB.out.size; simp at this; omega))⟩
        case measure => simp [intOf]
      · have hs2 : 0 ≤ b := by omega
        go_wp2
        go_roundw
        case rel => exact ⟨2, y, by omega, rfl, rfl, by rw [HY.out]; exact (if_neg hs).symm, HB.out⟩
        case measure => simp [intOf]
    · by_cases hs : a < 0
      · go_wp2_with fail
        refine (digits_go a (by omega) (by omega) _).mono ?_
        rintro e w9 ⟨he, hb9⟩
        rw [← Hz3.out] at he
        subst he
        have HB9 := hide hb9
        clear hb9
        go_wp2
        go_roundw
        case rel => exact ⟨3, z3, by omega, rfl, rfl, by rw [Hz3.out]; exact (if_pos hs).symm, HB.out.trans (HB9.out.mono (by have := HB.out.size; simp at this; omega))⟩
        case measure => simp [intOf]
      · have hs2 : 0 ≤ a := by omega
        go_wp2
        go_roundw
        case rel => exact ⟨3, y, by omega, rfl, rfl, by rw [HY.out]; exact (if_neg hs).symm, HB.out⟩
        case measure => simp [intOf]
    · have HBE := hide (HB4.out.trans ((((Below.refl w4.heap.size w4).alloc (Nat.le_refl _) _).trans (HB.out.mono (Nat.le_succ _))).mono HB4.out.size))
      clear d0 d1 d2
      go_wp2_with fail
      refine (digits_go (a + b + c) (by omega) (by omega) _).mono ?_
      rintro e w21 ⟨he, hb21⟩
      obtain ⟨z4, hz4⟩ : ∃ z : ByteArray, z = ⟨(Lib.itoa (a + b + c)).toArray⟩ := ⟨_, rfl⟩
      have sz4 : (z4.size : Int) ≤ 20 := by have := itoa_len (a + b + c) (by omega) (by omega); rw [hz4]; simp [ByteArray.size]; omega
      have Hz4 := hide hz4
      clear hz4
      rw [← Hz4.out] at he
      subst he
      have HB21 := hide (HBE.out.trans (hb21.mono HBE.out.size))
      clear hb21 HBE
      have HS : Hid (Says (EsAT (Lib.itoa a) (Lib.itoa b) (Lib.itoa c)) 5000 (Lib.itoa (a + b + c)) []) := by
        have := says_EsA a b c SA.out SB.out SC.out
        rw [told_int, w64_of (b + c) (by omega), w64_of _ (by omega), show a + (b + c) = a + b + c by omega] at this
        exact this
      go_wp2_with fail
      refine (is_says (HS.out) (by simp [EsAT, Hz3.out, Hz1.out, Hz2.out]) (by simp [Hz4.out]) _ (HE.out.below HB21.out)).mono ?_
      rintro e w22 ⟨rfl, hb22⟩
      have HB22 := hide (HB21.out.trans (hb22.mono HB21.out.size))
      clear hb22 HB21
      have HF := hide (says_EsF a b c SA.out SB.out SC.out)
      go_wp2_with fail
      refine (is_says (HF.out) (by simp [EsFT, HZS.out, spellS, spellT]) (by rw [HY.out]; rfl) _ (HE.out.below HB22.out)).mono ?_
      rintro e w23 ⟨rfl, hb23⟩
      have HB23 := hide (HB22.out.trans (hb23.mono HB22.out.size))
      clear hb23 HB22
      go_wp2
      go_ret
      exact ⟨rfl, HB23.out⟩
set_option maxRecDepth 100000 in
set_option maxHeartbeats 4000000 in
theorem Escapes_yes (x y z : Int) (hx : -9223372036854775808 ≤ x ∧ x ≤ 9223372036854775807) (hy : -9223372036854775808 ≤ y ∧ y ≤ 9223372036854775807) (hz : -9223372036854775808 ≤ z ∧ z ≤ 9223372036854775807) (w : World) (he : Env w) : Calls Tryz.prog 11 #[.int .i64 x, .int .i64 y, .int .i64 z, .bool true] w (RckP w) := by
  have ma := tmod5 x
  have mb := tmod5 y
  have mc := tmod5 z
  have HE := hide he
  clear he
  go_enter Tryz.func11, Tryz.ntmps11
  go_wp2_with fail
  generalize z.tmod 100000 = c at mc ⊢
  generalize y.tmod 100000 = b at mb ⊢
  generalize x.tmod 100000 = a at ma ⊢
  have SA : Hid (Small a) := ⟨by omega, by omega⟩
  have SB : Hid (Small b) := ⟨by omega, by omega⟩
  have SC : Hid (Small c) := ⟨by omega, by omega⟩
  refine (digits_go (b) (by omega) (by omega) _).mono ?_
  rintro e w1 ⟨he, hb1⟩
  obtain ⟨z1, hz1⟩ : ∃ z : ByteArray, z = ⟨(Lib.itoa (b)).toArray⟩ := ⟨_, rfl⟩
  have sz1 : (z1.size : Int) ≤ 20 := by have := itoa_len (b) (by omega) (by omega); rw [hz1]; simp [ByteArray.size]; omega
  have Hz1 := hide hz1
  clear hz1
  rw [← Hz1.out] at he
  subst he
  have HB1 := hide hb1
  clear hb1
  go_wp2_with fail
  refine (digits_go (c) (by omega) (by omega) _).mono ?_
  rintro e w2 ⟨he, hb2⟩
  obtain ⟨z2, hz2⟩ : ∃ z : ByteArray, z = ⟨(Lib.itoa (c)).toArray⟩ := ⟨_, rfl⟩
  have sz2 : (z2.size : Int) ≤ 20 := by have := itoa_len (c) (by omega) (by omega); rw [hz2]; simp [ByteArray.size]; omega
  have Hz2 := hide hz2
  clear hz2
  rw [← Hz2.out] at he
  subst he
  have HB2 := hide (HB1.out.trans (hb2.mono HB1.out.size))
  clear hb2 HB1
  go_wp2_with fail
  refine (digits_go (b) (by omega) (by omega) _).mono ?_
  rintro e w3 ⟨he, hb3⟩
  rw [← Hz1.out] at he
  subst he
  have HB3 := hide (HB2.out.trans (hb3.mono HB2.out.size))
  clear hb3 HB2
  go_wp2_with fail
  refine (digits_go (c) (by omega) (by omega) _).mono ?_
  rintro e w4 ⟨he, hb4⟩
  rw [← Hz2.out] at he
  subst he
  have HB4 := hide (HB3.out.trans (hb4.mono HB3.out.size))
  clear hb4 HB3
  go_wp2_with fail
  refine (digits_go (a) (by omega) (by omega) _).mono ?_
  rintro e w5 ⟨he, hb5⟩
  obtain ⟨z3, hz3⟩ : ∃ z : ByteArray, z = ⟨(Lib.itoa (a)).toArray⟩ := ⟨_, rfl⟩
  have sz3 : (z3.size : Int) ≤ 20 := by have := itoa_len (a) (by omega) (by omega); rw [hz3]; simp [ByteArray.size]; omega
  have Hz3 := hide hz3
  clear hz3
  rw [← Hz3.out] at he
  subst he
  have HB5 := hide (HB4.out.trans (hb5.mono HB4.out.size))
  clear hb5 HB4
  go_wp2_with fail
  refine (spelled_go [a, b, c] _ (some ⟨w5.heap.size, 0, none⟩) 3 (by simp) (by intro q hq; simp at hq; rcases hq with rfl | rfl | rfl <;> omega) (three_at _ a b c)).mono ?_
  rintro e w6 ⟨he, hb6⟩
  obtain ⟨zs, hzs⟩ : ∃ z : ByteArray, z = ⟨(spellS [a, b, c]).toArray⟩ := ⟨_, rfl⟩
  have szs : (zs.size : Int) ≤ 100 := by
    have h := spellS_len [a, b, c] (by intro q hq; simp at hq; rcases hq with rfl | rfl | rfl <;> exact itoa_len _ (by omega) (by omega))
    simp only [List.length_cons, List.length_nil] at h
    have h2 : zs.size = (spellS [a, b, c]).length := by rw [hzs]; rfl
    omega
  have HZS := hide hzs
  rw [← hzs] at he
  subst he
  clear hzs
  have HB6 := hide ((HB5.out.alloc HB5.out.size _).trans (hb6.mono (by have := HB5.out.size; simp; omega)))
  clear hb6 HB5
  go_wp2
  have hzw := HB6.out.size
  go_loopw [16, 18] (fun u i wr => ∃ (q : Nat) (y : ByteArray), q ≤ 3 ∧ i = .int .i64 q ∧ u = .string y ∧ y.data.toList = firstNeg (fnd a b c q) ∧ Below (w6.heap.size + 1) (w6.alloc (.cells #[.int .i64 c, .int .i64 b, .int .i64 a] 3)) wr) (fun _ i _ => 3 - (intOf i).toNat)
  case atStart => exact ⟨0, ⟨#[110, 111, 110, 101]⟩, by omega, rfl, rfl, rfl, Below.refl _ _⟩
  case round =>
    obtain ⟨q, y, hq, rfl, rfl, hy, hb⟩ := hrel
    have d0 := (hb.cell (p := ⟨w6.heap.size, 0, none⟩) (Nat.lt_succ_self _)).trans ((World.cell?_alloc_at _ _ _ _ (by simp)).trans rfl)
    have d1 := (hb.cell (p := ⟨w6.heap.size, 1, none⟩) (Nat.lt_succ_self _)).trans ((World.cell?_alloc_at _ _ _ _ (by simp)).trans rfl)
    have d2 := (hb.cell (p := ⟨w6.heap.size, 2, none⟩) (Nat.lt_succ_self _)).trans ((World.cell?_alloc_at _ _ _ _ (by simp)).trans rfl)
    have HY := hide hy
    have HB := hide hb
    have hbz := hb.size
    simp only [List.getElem?_toArray, List.getElem?_cons_zero, List.getElem?_cons_succ] at d0 d1 d2
    clear hy hb
    have hq3 : q = 0 ∨ q = 1 ∨ q = 2 ∨ q = 3 := by omega
    rcases hq3 with rfl | rfl | rfl | rfl
    · by_cases hs : c < 0
      · go_wp2_with fail
        refine (digits_go c (by omega) (by omega) _).mono ?_
        rintro e w9 ⟨he, hb9⟩
        rw [← Hz2.out] at he
        subst he
        have HB9 := hide hb9
        clear hb9
        go_wp2
        go_roundw
        case rel => exact ⟨1, z2, by omega, rfl, rfl, by rw [Hz2.out]; exact (if_pos hs).symm, HB.out.trans (HB9.out.mono (by have := HB.out.size; simp at this; omega))⟩
        case measure => simp [intOf]
      · have hs2 : 0 ≤ c := by omega
        go_wp2
        go_roundw
        case rel => exact ⟨1, y, by omega, rfl, rfl, by rw [HY.out]; exact (if_neg hs).symm, HB.out⟩
        case measure => simp [intOf]
    · by_cases hs : b < 0
      · go_wp2_with fail
        refine (digits_go b (by omega) (by omega) _).mono ?_
        rintro e w9 ⟨he, hb9⟩
        rw [← Hz1.out] at he
        subst he
        have HB9 := hide hb9
        clear hb9
        go_wp2
        go_roundw
        case rel => exact ⟨2, z1, by omega, rfl, rfl, by rw [Hz1.out]; exact (if_pos hs).symm, HB.out.trans (HB9.out.mono (by have := HB.out.size; simp at this; omega))⟩
        case measure => simp [intOf]
      · have hs2 : 0 ≤ b := by omega
        go_wp2
        go_roundw
        case rel => exact ⟨2, y, by omega, rfl, rfl, by rw [HY.out]; exact (if_neg hs).symm, HB.out⟩
        case measure => simp [intOf]
    · by_cases hs : a < 0
      · go_wp2_with fail
        refine (digits_go a (by omega) (by omega) _).mono ?_
        rintro e w9 ⟨he, hb9⟩
        rw [← Hz3.out] at he
        subst he
        have HB9 := hide hb9
        clear hb9
        go_wp2
        go_roundw
        case rel => exact ⟨3, z3, by omega, rfl, rfl, by rw [Hz3.out]; exact (if_pos hs).symm, HB.out.trans (HB9.out.mono (by have := HB.out.size; simp at this; omega))⟩
        case measure => simp [intOf]
      · have hs2 : 0 ≤ a := by omega
        go_wp2
        go_roundw
        case rel => exact ⟨3, y, by omega, rfl, rfl, by rw [HY.out]; exact (if_neg hs).symm, HB.out⟩
        case measure => simp [intOf]
    · have HBE := hide (HB6.out.trans ((((Below.refl w6.heap.size w6).alloc (Nat.le_refl _) _).trans (HB.out.mono (Nat.le_succ _))).mono HB6.out.size))
      clear d0 d1 d2
      go_wp2_with fail
      refine (digits_go (a + c) (by omega) (by omega) _).mono ?_
      rintro e w21 ⟨he, hb21⟩
      obtain ⟨z4, hz4⟩ : ∃ z : ByteArray, z = ⟨(Lib.itoa (a + c)).toArray⟩ := ⟨_, rfl⟩
      have sz4 : (z4.size : Int) ≤ 20 := by have := itoa_len (a + c) (by omega) (by omega); rw [hz4]; simp [ByteArray.size]; omega
      have Hz4 := hide hz4
      clear hz4
      rw [← Hz4.out] at he
      subst he
      have HB21 := hide (HBE.out.trans (hb21.mono HBE.out.size))
      clear hb21 HBE
      have HS : Hid (Says (EsBT (Lib.itoa a) (Lib.itoa b) (Lib.itoa c)) 5000 (Lib.itoa (a + c)) []) := by
        have := says_EsB a b c SA.out SB.out SC.out
        rw [told_int, w64_of _ (by omega)] at this
        exact this
      go_wp2_with fail
      refine (is_says (HS.out) (by simp [EsBT, Hz3.out, Hz1.out, Hz2.out]) (by simp [Hz4.out]) _ (HE.out.below HB21.out)).mono ?_
      rintro e w22 ⟨rfl, hb22⟩
      have HB22 := hide (HB21.out.trans (hb22.mono HB21.out.size))
      clear hb22 HB21
      have HF := hide (says_EsF a b c SA.out SB.out SC.out)
      go_wp2_with fail
      refine (is_says (HF.out) (by simp [EsFT, HZS.out, spellS, spellT]) (by rw [HY.out]; rfl) _ (HE.out.below HB22.out)).mono ?_
      rintro e w23 ⟨rfl, hb23⟩
      have HB23 := hide (HB22.out.trans (hb23.mono HB22.out.size))
      clear hb23 HB22
      go_wp2
      go_ret
      exact ⟨rfl, HB23.out⟩
theorem Escapes_go (x y z : Int) (l : Bool) (hx : -9223372036854775808 ≤ x ∧ x ≤ 9223372036854775807) (hy : -9223372036854775808 ≤ y ∧ y ≤ 9223372036854775807) (hz : -9223372036854775808 ≤ z ∧ z ≤ 9223372036854775807) (w : World) (he : Env w) : Calls Tryz.prog 11 #[.int .i64 x, .int .i64 y, .int .i64 z, .bool l] w (RckP w) := by
  cases l with
  | true => exact Escapes_yes x y z hx hy hz w he
  | false => exact Escapes_no x y z hx hy hz w he
end Go.Proofs.YtlobegpjenabaaaGreatDoor
