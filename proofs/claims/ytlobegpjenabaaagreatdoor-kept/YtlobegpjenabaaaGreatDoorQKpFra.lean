/- Frames of any two ints answers true. -/
import Derived.Test.YtlobegpjenabaaaGreatDoorQKpFrm
namespace Go.Proofs.YtlobegpjenabaaaGreatDoor
open Go.RowKit
set_option linter.unusedSimpArgs false
set_option linter.unusedVariables false

theorem tmod5 (x : Int) : -100000 < x.tmod 100000 ∧ x.tmod 100000 < 100000 :=
  ⟨Int.lt_tmod_of_pos x (show (0 : Int) < 100000 by omega), Int.tmod_lt_of_pos x (show (0 : Int) < 100000 by omega)⟩
set_option maxRecDepth 100000 in
set_option maxHeartbeats 4000000 in
theorem Frames_go (x y : Int) (hx : -9223372036854775808 ≤ x ∧ x ≤ 9223372036854775807) (hy : -9223372036854775808 ≤ y ∧ y ≤ 9223372036854775807) (w : World) (he : Env w) : Calls Tryz.prog 7 #[.int .i64 x, .int .i64 y] w (RckP w) := by
  have ma := tmod5 x
  have mb := tmod5 y
  have HE := hide he
  clear he
  go_enter Tryz.func7, Tryz.ntmps7
  go_wp2_with fail
  generalize y.tmod 100000 = b at mb ⊢
  generalize x.tmod 100000 = a at ma ⊢
  have SA : Hid (Small a) := ⟨by omega, by omega⟩
  have SB : Hid (Small b) := ⟨by omega, by omega⟩
  refine (digits_go (a) (by omega) (by omega) _).mono ?_
  rintro e w1 ⟨he, hb1⟩
  obtain ⟨z1, hz1⟩ : ∃ z : ByteArray, z = ⟨(Lib.itoa (a)).toArray⟩ := ⟨_, rfl⟩
  have sz1 : (z1.size : Int) ≤ 20 := by have := itoa_len (a) (by omega) (by omega); rw [hz1]; simp [ByteArray.size]; omega
  have Hz1 := hide hz1
  clear hz1
  rw [← Hz1.out] at he
  subst he
  have HB1 := hide hb1
  clear hb1
  go_wp2_with fail
  refine (digits_go (b) (by omega) (by omega) _).mono ?_
  rintro e w2 ⟨he, hb2⟩
  obtain ⟨z2, hz2⟩ : ∃ z : ByteArray, z = ⟨(Lib.itoa (b)).toArray⟩ := ⟨_, rfl⟩
  have sz2 : (z2.size : Int) ≤ 20 := by have := itoa_len (b) (by omega) (by omega); rw [hz2]; simp [ByteArray.size]; omega
  have Hz2 := hide hz2
  clear hz2
  rw [← Hz2.out] at he
  subst he
  have HB2 := hide (HB1.out.trans (hb2.mono HB1.out.size))
  clear hb2 HB1
  go_wp2_with fail
  refine (digits_go (a) (by omega) (by omega) _).mono ?_
  rintro e w3 ⟨he, hb3⟩
  rw [← Hz1.out] at he
  subst he
  have HB3 := hide (HB2.out.trans (hb3.mono HB2.out.size))
  clear hb3 HB2
  go_wp2_with fail
  refine (digits_go (b) (by omega) (by omega) _).mono ?_
  rintro e w4 ⟨he, hb4⟩
  rw [← Hz2.out] at he
  subst he
  have HB4 := hide (HB3.out.trans (hb4.mono HB3.out.size))
  clear hb4 HB3
  go_wp2_with fail
  refine (digits_go (a) (by omega) (by omega) _).mono ?_
  rintro e w5 ⟨he, hb5⟩
  rw [← Hz1.out] at he
  subst he
  have HB5 := hide (HB4.out.trans (hb5.mono HB4.out.size))
  clear hb5 HB4
  go_wp2_with fail
  refine (digits_go (b) (by omega) (by omega) _).mono ?_
  rintro e w6 ⟨he, hb6⟩
  rw [← Hz2.out] at he
  subst he
  have HB6 := hide (HB5.out.trans (hb6.mono HB5.out.size))
  clear hb6 HB5
  go_wp2_with fail
  refine (digits_go (a) (by omega) (by omega) _).mono ?_
  rintro e w7 ⟨he, hb7⟩
  rw [← Hz1.out] at he
  subst he
  have HB7 := hide (HB6.out.trans (hb7.mono HB6.out.size))
  clear hb7 HB6
  go_wp2_with fail
  refine (digits_go (b) (by omega) (by omega) _).mono ?_
  rintro e w8 ⟨he, hb8⟩
  rw [← Hz2.out] at he
  subst he
  have HB8 := hide (HB7.out.trans (hb8.mono HB7.out.size))
  clear hb8 HB7
  go_wp2_with fail
  refine (digits_go (a + 101) (by omega) (by omega) _).mono ?_
  rintro e w9 ⟨he, hb9⟩
  obtain ⟨z3, hz3⟩ : ∃ z : ByteArray, z = ⟨(Lib.itoa (a + 101)).toArray⟩ := ⟨_, rfl⟩
  have sz3 : (z3.size : Int) ≤ 20 := by have := itoa_len (a + 101) (by omega) (by omega); rw [hz3]; simp [ByteArray.size]; omega
  have Hz3 := hide hz3
  clear hz3
  rw [← Hz3.out] at he
  subst he
  have HB9 := hide (HB8.out.trans (hb9.mono HB8.out.size))
  clear hb9 HB8
  go_wp2_with fail
  refine (digits_go (b + 10) (by omega) (by omega) _).mono ?_
  rintro e w10 ⟨he, hb10⟩
  obtain ⟨z4, hz4⟩ : ∃ z : ByteArray, z = ⟨(Lib.itoa (b + 10)).toArray⟩ := ⟨_, rfl⟩
  have sz4 : (z4.size : Int) ≤ 20 := by have := itoa_len (b + 10) (by omega) (by omega); rw [hz4]; simp [ByteArray.size]; omega
  have Hz4 := hide hz4
  clear hz4
  rw [← Hz4.out] at he
  subst he
  have HB10 := hide (HB9.out.trans (hb10.mono HB9.out.size))
  clear hb10 HB9
  have HS : Hid (Says (FrCT (Lib.itoa a) (Lib.itoa b)) 5000 ([40] ++ Lib.itoa (a + 101) ++ [32, 46, 32] ++ Lib.itoa (b + 10) ++ [41]) []) := by
    have := says_FrC a b SA.out SB.out
    rw [told_two _ _ _ (w64_in _) (w64_in _), w64_of (w64 (w64 (a + 1) + 100) + 0) (by rw [w64_of (a + 1) (by omega), w64_of _ (by omega)]; omega), w64_of (w64 (a + 1) + 100) (by rw [w64_of (a + 1) (by omega)]; omega), w64_of (a + 1) (by omega), w64_of (w64 (b + 10) + 0) (by rw [w64_of _ (by omega)]; omega), w64_of (b + 10) (by omega), show a + 1 + 100 + 0 = a + 101 by omega, show b + 10 + 0 = b + 10 by omega] at this
    exact this
  go_wp2_with fail
  refine (is_says (HS.out) (by simp [FrCT, Hz1.out, Hz2.out]) (by simp [Hz3.out, Hz4.out]) _ (HE.out.below HB10.out)).mono ?_
  rintro e w11 ⟨rfl, hb11⟩
  have HB11 := hide (HB10.out.trans (hb11.mono HB10.out.size))
  clear hb11 HB10
  clear HS
  go_wp2_with fail
  refine (digits_go (b + 1) (by omega) (by omega) _).mono ?_
  rintro e w12 ⟨he, hb12⟩
  obtain ⟨z5, hz5⟩ : ∃ z : ByteArray, z = ⟨(Lib.itoa (b + 1)).toArray⟩ := ⟨_, rfl⟩
  have sz5 : (z5.size : Int) ≤ 20 := by have := itoa_len (b + 1) (by omega) (by omega); rw [hz5]; simp [ByteArray.size]; omega
  have Hz5 := hide hz5
  clear hz5
  rw [← Hz5.out] at he
  subst he
  have HB12 := hide (HB11.out.trans (hb12.mono HB11.out.size))
  clear hb12 HB11
  go_wp2_with fail
  refine (digits_go (a) (by omega) (by omega) _).mono ?_
  rintro e w13 ⟨he, hb13⟩
  rw [← Hz1.out] at he
  subst he
  have HB13 := hide (HB12.out.trans (hb13.mono HB12.out.size))
  clear hb13 HB12
  have HS : Hid (Says (FrST (Lib.itoa a) (Lib.itoa b)) 5000 ([40] ++ Lib.itoa (b + 1) ++ [32, 46, 32] ++ Lib.itoa (a) ++ [41]) []) := by
    have := says_FrS a b SA.out SB.out
    rw [told_two _ _ _ (w64_in _) (by omega), w64_of (b + 1) (by omega)] at this
    exact this
  go_wp2_with fail
  refine (is_says (HS.out) (by simp [FrST, Hz1.out, Hz2.out]) (by simp [Hz5.out, Hz1.out]) _ (HE.out.below HB13.out)).mono ?_
  rintro e w14 ⟨rfl, hb14⟩
  have HB14 := hide (HB13.out.trans (hb14.mono HB13.out.size))
  clear hb14 HB13
  clear HS
  go_wp2_with fail
  refine (digits_go (b) (by omega) (by omega) _).mono ?_
  rintro e w15 ⟨he, hb15⟩
  rw [← Hz2.out] at he
  subst he
  have HB15 := hide (HB14.out.trans (hb15.mono HB14.out.size))
  clear hb15 HB14
  go_wp2_with fail
  refine (digits_go (a) (by omega) (by omega) _).mono ?_
  rintro e w16 ⟨he, hb16⟩
  rw [← Hz1.out] at he
  subst he
  have HB16 := hide (HB15.out.trans (hb16.mono HB15.out.size))
  clear hb16 HB15
  have HS : Hid (Says (FrIT (Lib.itoa a) (Lib.itoa b)) 5000 ([40] ++ Lib.itoa (b) ++ [32, 46, 32] ++ Lib.itoa (a) ++ [41]) []) := by
    have := says_FrI a b SA.out SB.out
    rw [told_two _ _ _ (by omega) (by omega)] at this
    exact this
  go_wp2_with fail
  refine (is_says (HS.out) (by simp [FrIT, Hz1.out, Hz2.out]) (by simp [Hz2.out, Hz1.out]) _ (HE.out.below HB16.out)).mono ?_
  rintro e w17 ⟨rfl, hb17⟩
  have HB17 := hide (HB16.out.trans (hb17.mono HB16.out.size))
  clear hb17 HB16
  clear HS
  go_wp2_with fail
  refine (digits_go (a - b) (by omega) (by omega) _).mono ?_
  rintro e w18 ⟨he, hb18⟩
  obtain ⟨z6, hz6⟩ : ∃ z : ByteArray, z = ⟨(Lib.itoa (a - b)).toArray⟩ := ⟨_, rfl⟩
  have sz6 : (z6.size : Int) ≤ 20 := by have := itoa_len (a - b) (by omega) (by omega); rw [hz6]; simp [ByteArray.size]; omega
  have Hz6 := hide hz6
  clear hz6
  rw [← Hz6.out] at he
  subst he
  have HB18 := hide (HB17.out.trans (hb18.mono HB17.out.size))
  clear hb18 HB17
  have HS : Hid (Says (FrOT (Lib.itoa a) (Lib.itoa b)) 5000 (Lib.itoa (a - b)) []) := by
    have := says_FrO a b SA.out SB.out
    rw [told_int, w64_of _ (by omega)] at this
    exact this
  go_wp2_with fail
  refine (is_says (HS.out) (by simp [FrOT, Hz1.out, Hz2.out]) (by simp [Hz6.out]) _ (HE.out.below HB18.out)).mono ?_
  rintro e w19 ⟨rfl, hb19⟩
  have HB19 := hide (HB18.out.trans (hb19.mono HB18.out.size))
  clear hb19 HB18
  clear HS
  go_wp2
  go_ret
  exact ⟨rfl, HB19.out⟩
end Go.Proofs.YtlobegpjenabaaaGreatDoor
