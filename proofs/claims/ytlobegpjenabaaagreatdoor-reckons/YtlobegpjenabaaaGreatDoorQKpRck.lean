/- Reckons of any two ints answers true. -/
import Derived.Test.YtlobegpjenabaaaGreatDoorQKpRec
namespace Go.Proofs.YtlobegpjenabaaaGreatDoor
open Go.RowKit
set_option linter.unusedSimpArgs false
set_option linter.unusedVariables false

set_option maxRecDepth 100000 in
set_option maxHeartbeats 4000000 in
theorem times_go (w : World) (a : Int) : Calls Tryz.prog 21 #[.int .i64 a, .int .i64 7] w (RetW (.int .i64 (mulN 7 a)) w) := by
  go_enter Tryz.func21, Tryz.ntmps21
  go_wp2
  go_loopw [0, 5] (fun u i wr => ∃ (k : Nat) (c : Int), k ≤ 7 ∧ i = .int .i64 k ∧ u = .int .i64 c ∧ mulN (7 - k) c = mulN 7 a ∧ wr = w) (fun _ i _ => 7 - (intOf i).toNat)
  case atStart => exact ⟨0, a, by omega, rfl, rfl, rfl, rfl⟩
  case round =>
    obtain ⟨k, c, hk, rfl, rfl, hm, rfl⟩ := hrel
    have HM := hide hm
    clear hm
    by_cases hlt : k < 7
    · go_wp2
      go_roundw
      case rel =>
        refine ⟨k + 1, wrap64 (c * 1000003), by omega, rfl, rfl, ?_, by first | rfl | trivial⟩
        have := HM.out
        rw [show 7 - k = (7 - (k + 1)) + 1 by omega, mulN, w64_eq] at this
        exact this
      case measure => simp [intOf]; omega
    · have : k = 7 := by omega
      subst this
      go_wp2
      go_ret
      refine ⟨?_, rfl⟩
      have := HM.out
      simp only [Nat.sub_self, mulN] at this
      rw [this]; rfl
theorem mulN_in : ∀ (n : Nat) (a : Int), (-9223372036854775808 ≤ a ∧ a ≤ 9223372036854775807) → (-9223372036854775808 ≤ mulN n a ∧ mulN n a ≤ 9223372036854775807)
  | 0, a, h => h
  | n + 1, a, h => mulN_in n _ (w64_in _)
theorem R7_data {z1 : ByteArray} {l1 : List UInt8} (h1 : z1 = ⟨l1.toArray⟩) : ((⟨R7T.toArray⟩ : ByteArray) ++ z1 ++ ⟨#[41]⟩).data.toList = R7T ++ l1 ++ [41] := by
  subst h1; simp
theorem tmod_small (x : Int) : Small (x.tmod 1000000000000000000) := by
  have h1 := Int.tmod_lt_of_pos x (show (0 : Int) < 1000000000000000000 by omega)
  have h2 := Int.lt_tmod_of_pos x (show (0 : Int) < 1000000000000000000 by omega)
  exact ⟨h2, h1⟩
theorem op_data {z1 z2 : ByteArray} {l1 l2 : List UInt8} (h1 : z1 = ⟨l1.toArray⟩) (h2 : z2 = ⟨l2.toArray⟩) (op : List UInt8) : ((⟨(40 :: op).toArray⟩ : ByteArray) ++ (⟨#[32]⟩ ++ z1 ++ ⟨#[32]⟩ ++ z2 ++ ⟨#[41]⟩)).data.toList = [40] ++ op ++ ([32] ++ l1 ++ [32] ++ l2 ++ [41]) := by
  subst h1 h2; simp
/-- One of the six. -/
theorem is_op {a b : Int} (sa : Small a) (sb : Small b) {z1 z2 : ByteArray} (h1 : z1 = ⟨(Lib.itoa a).toArray⟩) (h2 : z2 = ⟨(Lib.itoa b).toArray⟩) (op t : List UInt8) (hop : op.length ≤ 3) (hs : Says ([40] ++ op ++ ([32] ++ Lib.itoa a ++ [32] ++ Lib.itoa b ++ [41])) 5000 t []) (W : World) (hW : Env W) :
    Calls Tryz.prog 19 #[.string (⟨(40 :: op).toArray⟩ ++ (⟨#[32]⟩ ++ z1 ++ ⟨#[32]⟩ ++ z2 ++ ⟨#[41]⟩)), .string ⟨t.toArray⟩] W (IsP W true) := by
  refine is_go _ _ ?_ ?_ W hW.mx hW.tb
  · rw [op_data h1 h2]; exact hs
  · have := congrArg List.length (op_data h1 h2 op)
    have h3 := itoa_lenS a sa
    have h4 := itoa_lenS b sb
    simp only [List.length_append, List.length_cons, List.length_nil] at this
    rw [show ∀ z : ByteArray, z.size = z.data.toList.length from fun z => by simp]
    unfold maxLen
    rw [this]; omega
set_option maxRecDepth 100000 in
set_option maxHeartbeats 4000000 in
theorem Reckons_go (x y : Int) (hx : -9223372036854775808 ≤ x ∧ x ≤ 9223372036854775807) (hy : -9223372036854775808 ≤ y ∧ y ≤ 9223372036854775807) (w : World) (he : Env w) : Calls Tryz.prog 5 #[.int .i64 x, .int .i64 y] w (RckP w) := by
  have H1 := hide (small_go w x hx.1 hx.2)
  have H2 := hide (small_go w y hy.1 hy.2)
  obtain ⟨a, ha⟩ : ∃ a, a = x.tmod 1000000000000000000 := ⟨_, rfl⟩
  obtain ⟨b, hb⟩ : ∃ b, b = y.tmod 1000000000000000000 := ⟨_, rfl⟩
  have sa : Small a := by rw [ha]; exact tmod_small x
  have sb : Small b := by rw [hb]; exact tmod_small y
  rw [← ha] at H1
  rw [← hb] at H2
  have HE := hide he
  clear ha hb hx hy he
  have a1 := sa.1
  have a2 := sa.2
  have b1 := sb.1
  have b2 := sb.2
  have SA := hide sa
  have SB := hide sb
  clear sa sb
  go_enter Tryz.func5, Tryz.ntmps5
  go_wp2_with fail
  refine H1.out.mono ?_
  rintro e w' ⟨rfl, rfl⟩
  go_wp2_with fail
  refine H2.out.mono ?_
  rintro e w' ⟨rfl, rfl⟩
  clear H1 H2
  go_wp2_with fail
  refine (digits_go a (by omega) (by omega) w').mono ?_
  rintro e w1 ⟨rfl, hb1⟩
  obtain ⟨z1, hz1⟩ : ∃ z : ByteArray, z = ⟨(Lib.itoa a).toArray⟩ := ⟨_, rfl⟩
  rw [← hz1]
  have s1 : (z1.size : Int) ≤ 20 := by have := itoa_lenS a SA.out; rw [hz1]; simp [ByteArray.size]; omega
  have HZ1 := hide hz1
  have HB1 := hide hb1
  clear hz1 hb1
  go_wp2_with fail
  refine (digits_go b (by omega) (by omega) w1).mono ?_
  rintro e w2 ⟨rfl, hb2⟩
  obtain ⟨z2, hz2⟩ : ∃ z : ByteArray, z = ⟨(Lib.itoa b).toArray⟩ := ⟨_, rfl⟩
  rw [← hz2]
  have s2 : (z2.size : Int) ≤ 20 := by have := itoa_lenS b SB.out; rw [hz2]; simp [ByteArray.size]; omega
  have HZ2 := hide hz2
  have HB2 := hide (HB1.out.trans (hb2.mono HB1.out.size))
  clear hz2 hb2
  have W2 := hide (HE.out.below HB2.out)
  go_wp2_with fail
  refine (digits_go (a + b) (by omega) (by omega) w2).mono ?_
  rintro e w3 ⟨rfl, hb3⟩
  have HB3 := hide (HB2.out.trans (hb3.mono HB2.out.size))
  clear hb3
  go_wp2_with fail
  refine (is_op SA.out SB.out HZ1.out HZ2.out [43] (Lib.itoa (a + b)) (by decide) (by have := says_plus a b SA.out SB.out; rw [told_int, w64_of _ (by omega)] at this; exact this) w3 (HE.out.below HB3.out)).mono ?_
  rintro e w4 ⟨rfl, hb4⟩
  have HB4 := hide (HB3.out.trans (hb4.mono HB3.out.size))
  clear hb4
  go_wp2_with fail
  refine (digits_go (a - b) (by omega) (by omega) w4).mono ?_
  rintro e w5 ⟨rfl, hb5⟩
  have HB5 := hide (HB4.out.trans (hb5.mono HB4.out.size))
  clear hb5
  go_wp2_with fail
  refine (is_op SA.out SB.out HZ1.out HZ2.out [45] (Lib.itoa (a - b)) (by decide) (by have := says_minus a b SA.out SB.out; rw [told_int, w64_of _ (by omega)] at this; exact this) w5 (HE.out.below HB5.out)).mono ?_
  rintro e w6 ⟨rfl, hb6⟩
  have HB6 := hide (HB5.out.trans (hb6.mono HB5.out.size))
  clear hb6
  go_wp2_with fail
  refine (digits_go (wrap64 (a * b)) (by rw [← w64_eq]; exact (w64_in _).1) (by rw [← w64_eq]; exact (w64_in _).2) w6).mono ?_
  rintro e w7 ⟨rfl, hb7⟩
  have HB7 := hide (HB6.out.trans (hb7.mono HB6.out.size))
  clear hb7
  go_wp2_with fail
  refine (is_op SA.out SB.out HZ1.out HZ2.out [42] (Lib.itoa (wrap64 (a * b))) (by decide) (by have := says_times a b SA.out SB.out; rw [told_int, w64_eq] at this; exact this) w7 (HE.out.below HB7.out)).mono ?_
  rintro e w8 ⟨rfl, hb8⟩
  have HB8 := hide (HB7.out.trans (hb8.mono HB7.out.size))
  clear hb8 HB1 HB2 HB3 HB4 HB5 HB6 HB7 W2
  have HL := hide (says_less a b SA.out SB.out)
  have HQ := hide (says_equal a b SA.out SB.out)
  have HS := hide (says_same a b SA.out SB.out)
  rw [told_truth] at HL HQ HS
  go_wp2_with fail
  refine (truth_go' w8 (decide (a < b))).mono ?_
  rintro e w9 ⟨rfl, hw9⟩
  obtain rfl : w8 = w9 := hw9.symm
  clear hw9
  go_wp2_with fail
  refine (is_op SA.out SB.out HZ1.out HZ2.out [60] _ (by decide) HL.out w8 (HE.out.below HB8.out)).mono ?_
  rintro e w9 ⟨rfl, hb9⟩
  have HB9 := hide (HB8.out.trans (hb9.mono HB8.out.size))
  clear hb9 HL
  go_wp2_with fail
  refine (truth_go' w9 (a == b)).mono ?_
  rintro e w10 ⟨rfl, hw9⟩
  obtain rfl : w9 = w10 := hw9.symm
  clear hw9
  go_wp2_with fail
  refine (is_op SA.out SB.out HZ1.out HZ2.out [61] _ (by decide) HQ.out w9 (HE.out.below HB9.out)).mono ?_
  rintro e w10 ⟨rfl, hb10⟩
  have HB10 := hide (HB9.out.trans (hb10.mono HB9.out.size))
  clear hb10 HQ
  go_wp2_with fail
  refine (truth_go' w10 (a == b)).mono ?_
  rintro e w11 ⟨rfl, hw9⟩
  obtain rfl : w10 = w11 := hw9.symm
  clear hw9
  go_wp2_with fail
  refine (is_op SA.out SB.out HZ1.out HZ2.out [101, 113, 63] _ (by decide) HS.out w10 (HE.out.below HB10.out)).mono ?_
  rintro e w11 ⟨rfl, hb11⟩
  have HB11 := hide (HB10.out.trans (hb11.mono HB10.out.size))
  clear hb11 HS HB8 HB9 HB10
  go_wp2_with fail
  refine (digits_go a (by omega) (by omega) w11).mono ?_
  rintro e w12 ⟨he, hb12⟩
  rw [← HZ1.out] at he
  subst he
  have HB12 := hide (HB11.out.trans (hb12.mono HB11.out.size))
  clear hb12
  go_wp2_with fail
  refine (times_go w12 a).mono ?_
  rintro e w13 ⟨rfl, hw13⟩
  obtain rfl : w12 = w13 := hw13.symm
  clear hw13
  have hml := mulN_in 7 a (by omega)
  have HML := hide hml
  obtain ⟨c, hc⟩ : ∃ c, c = mulN 7 a := ⟨_, rfl⟩
  rw [← hc]
  rw [← hc] at hml
  have HR := hide (says_R7 a SA.out)
  rw [← hc] at HR
  have HC := hide hc
  clear hc
  go_wp2_with fail
  refine (digits_go c hml.1 hml.2 w12).mono ?_
  rintro e w14 ⟨rfl, hb14⟩
  have HB14 := hide (HB12.out.trans (hb14.mono HB12.out.size))
  clear hb14 hml
  go_wp2_with fail
  have HIS : Hid (Calls Tryz.prog 19 #[.string ((⟨R7T.toArray⟩ : ByteArray) ++ z1 ++ ⟨#[41]⟩), .string ⟨(Lib.itoa c).toArray⟩] w14 (IsP w14 true)) := by
    refine is_go _ _ ?_ ?_ w14 (HE.out.below HB14.out).mx (HE.out.below HB14.out).tb
    · rw [R7_data HZ1.out]
      have := HR.out
      rw [show (toldS (.int c)).take 100 = Lib.itoa c from by
        show (Lib.itoa c).take 100 = _
        rw [List.take_of_length_le]
        have h0 := HML.out
        rw [← HC.out] at h0
        have := itoa_len c h0.1 h0.2
        omega] at this
      exact this
    · have := congrArg List.length (R7_data HZ1.out)
      have h3 := itoa_lenS a SA.out
      simp only [List.length_append, List.length_cons, List.length_nil] at this
      rw [show ∀ z : ByteArray, z.size = z.data.toList.length from fun z => by simp]
      unfold maxLen
      rw [this]; simp [R7T]; omega
  refine HIS.out.mono ?_
  rintro e w15 ⟨rfl, hb15⟩
  have HB15 := hide (HB14.out.trans (hb15.mono HB14.out.size))
  clear hb15
  go_wp2
  go_ret
  exact ⟨rfl, HB15.out⟩
end Go.Proofs.YtlobegpjenabaaaGreatDoor
