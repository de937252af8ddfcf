/- Loops of any numbers answers true. -/
import Derived.Test.YtlobegpjenabaaaGreatDoorQKpLop
import Derived.Test.YtlobegpjenabaaaGreatDoorQKpMac
import Derived.Test.YtlobegpjenabaaaGreatDoorQKpPick
namespace Go.Proofs.YtlobegpjenabaaaGreatDoor
open Go.RowKit
set_option linter.unusedSimpArgs false
set_option linter.unusedVariables false

/-- What holds of the machine ahead of each piece. -/
def LpRel (w1 : World) (B K L M b : Nat) (C : Cd) (t : List UInt8) (N0 j : Nat) (wr : World) : Prop := ∃ N s X ow, Ends C t N s ∧ j + N ≤ N0 ∧ MR B K wr X ow M b C s ∧ LM wr L M ∧ Below B w1 wr
set_option maxRecDepth 100000 in
set_option maxHeartbeats 4000000 in
theorem Loops_one (x y : Int) (hx : -9223372036854775808 ≤ x ∧ x ≤ 9223372036854775807) (hy : -9223372036854775808 ≤ y ∧ y ≤ 9223372036854775807) (w : World) (he : Env w) : Calls Tryz.prog 8 #[.int .i64 x, .int .i64 y, .bool false] w (RckP w) := by
  have HE := hide he
  have HP1 := hide (pick_600 w x hx)
  have HP2 := hide (pick_50 w y hy)
  obtain ⟨d, hd⟩ : ∃ d : Nat, pickS x 600 = (d : Int) := ⟨(pickS x 600).toNat, by have := (pickS_in x 600 (by omega)).1; omega⟩
  have hd6 : d < 600 := by have := (pickS_in x 600 (by omega)).2; omega
  obtain ⟨c, hc⟩ : ∃ c : Nat, pickS y 50 = (c : Int) := ⟨(pickS y 50).toNat, by have := (pickS_in y 50 (by omega)).1; omega⟩
  have hc5 : c < 50 := by have := (pickS_in y 50 (by omega)).2; omega
  rw [hd] at HP1
  rw [hc] at HP2
  have SD : Hid (Small (d : Int)) := ⟨by omega, by omega⟩
  clear he hd hc
  go_enter Tryz.func8, Tryz.ntmps8
  go_wp2_with fail
  refine HP1.out.mono ?_
  rintro e w' ⟨rfl, hw'⟩
  obtain rfl : w = w' := hw'.symm
  clear hw' HP1
  go_wp2_with fail
  refine HP2.out.mono ?_
  rintro e w' ⟨rfl, hw'⟩
  obtain rfl : w = w' := hw'.symm
  clear hw' HP2
  go_wp2_with fail
  refine (digits_go ((d : Int)) (by omega) (by omega) _).mono ?_
  rintro e w1 ⟨he, hb1⟩
  obtain ⟨z1, hz1⟩ : ∃ z : ByteArray, z = ⟨(Lib.itoa ((d : Int))).toArray⟩ := ⟨_, rfl⟩
  have sz1 : (z1.size : Int) ≤ 20 := by have := itoa_len ((d : Int)) (by omega) (by omega); rw [hz1]; simp [ByteArray.size]; omega
  have Hz1 := hide hz1
  clear hz1
  rw [← Hz1.out] at he
  subst he
  have HB1 := hide hb1
  clear hb1
  have HC := hide (comp_LpA (d : Int) SD.out)
  go_wp2_with fail
  refine (started_says HC.out (by simp [LpAT, Hz1.out]) _ (HE.out.below HB1.out)).mono ?_
  rintro e v1 ⟨L, M, K, b, cs, X, ow, rfl, hd, hLM, hMR, hb⟩
  obtain rfl := dvs_lit _ _ _ hd (show litVs (codeS (LpAE (d : Int))).cs = some [.int 0, .int d, .int 1] from by kernel_rfl)
  have HBV := hide (HB1.out.trans (hb.mono HB1.out.size))
  have HR0 : Hid (LpRel v1 w1.heap.size K L M b (lpC d) ((toldS (.int d)).take 100) (3 * d + 2) 0 v1) := ⟨3 * d + 2, _, X, ow, lp_all d hd6, by omega, hMR, hLM, Below.refl _ _⟩
  have hbz := hb.size
  clear hd hLM hMR hb HC
  go_wp2
  go_loopw [6, 11, 12, 13, 14] (fun r i u3 u4 u5 wr => ∃ j : Nat, j ≤ 6000 ∧ i = .int .i64 j ∧ LpRel v1 w1.heap.size K L M b (lpC d) ((toldS (.int d)).take 100) (3 * d + 2) j wr) (fun _ i _ _ _ _ => 6000 - (intOf i).toNat)
  case atStart => exact ⟨0, by omega, rfl, HR0.out⟩
  case round =>
    obtain ⟨j, hj, rfl, N, s, X, ow, hE, hjN, hMR, hLM, hb⟩ := hrel
    have hp := hE.pos
    have hlt : (j : Int) < 6000 := by omega
    have hbs := hb.size
    obtain ⟨g1, g2⟩ := Ends.piece c N s hE
    by_cases hk : c + 1 < N
    · obtain ⟨F, s', hg, hE'⟩ := g1 hk
      have HRUN := hide (mrun_run hMR hLM (c + 1) F (by omega) hg)
      rw [show ((c + 1 : Nat) : Int) = 1 + (c : Int) by omega] at HRUN
      have HEP := hide hE'
      have hp2 := hE'.pos
      have HB := hide hb
      clear hE hMR hLM hb g1 g2 hg hE'
      go_wp2_with fail
      refine HRUN.out.mono ?_
      rintro e v2 ⟨_, _, rfl, rfl, rfl, hLM2, hb2, X2, ow2, hMR2⟩
      have HLK := hide (mlook_run hMR2 hLM2 hp2.2.2.2)
      have HM2 := hide hMR2
      have HL2 := hide hLM2
      have HBB := hide (HB.out.trans hb2)
      have hz2 := hb2.size
      have hdp : ((s'.st.length - 1 : Nat) : Int) ≤ 2 := by omega
      obtain ⟨dp, hdq⟩ : ∃ dp : Int, dp = ((s'.st.length - 1 : Nat) : Int) := ⟨_, rfl⟩
      rw [← hdq] at HLK hdp
      clear hMR2 hLM2 hb2 HRUN hdq
      go_wp2_with fail
      refine HLK.out.mono ?_
      rintro e v3 ⟨he, hb3⟩
      unfold lookV at he
      subst he
      have HB3 := hide hb3
      have hz3 := hb3.size
      clear hb3 HLK
      go_wp2
      go_roundw
      case rel =>
        have hbe : Below v2.heap.size v2 (v3.alloc (.cells #[.int .i64 0, .int .i64 0, .int .i64 dp, .string ⟨#[]⟩] 52)) := HB3.out.alloc hz3 _
        exact ⟨j + 1, by omega, rfl, N - (c + 1), s', X2, ow2, HEP.out, by omega, HM2.out.below hbe, (hbe.block L (lt_of_some HL2.out)).trans HL2.out, HBB.out.trans (hbe.mono (by omega))⟩
      case measure => simp [intOf]; omega
    · obtain ⟨F, hg⟩ := g2 (by omega)
      have HRUN := hide (mrun_done hMR hLM (c + 1) N F (by omega) hg)
      rw [show ((c + 1 : Nat) : Int) = 1 + (c : Int) by omega] at HRUN
      have HB := hide hb
      clear hE hMR hLM hb g1 g2 hg
      go_wp2_with fail
      refine HRUN.out.mono ?_
      rintro e v2 ⟨_, _, rfl, rfl, rfl, hLM2, hb2, X2, ow2, hME⟩
      have HLK := hide (mlook_end rfl hME hLM2)
      have HBB := hide (HB.out.trans hb2)
      have hz2 := hb2.size
      clear hME hLM2 hb2 HRUN
      rw [told_int' (d : Int) (by omega)] at HLK
      obtain ⟨y, hy⟩ : ∃ y : ByteArray, y = ⟨(Lib.itoa (d : Int)).toArray⟩ := ⟨_, rfl⟩
      rw [← hy] at HLK
      have HY := hide hy
      clear hy
      go_wp2_with fail
      refine HLK.out.mono ?_
      rintro e v3 ⟨he, hb3⟩
      unfold lookV at he
      subst he
      have HB3 := hide hb3
      have hz3 := hb3.size
      clear hb3 HLK
      have hNk : (N : Int) ≤ 1 + (c : Int) := by omega
      have hal : v3.heap.size < (v3.alloc (.cells #[.int .i64 1, .int .i64 0, .int .i64 0, .string y] 52)).heap.size := by simp
      have HDG : Hid (Calls Tryz.prog 18 #[.int .i64 (d : Int)] (v3.alloc (.cells #[.int .i64 1, .int .i64 0, .int .i64 0, .string y] 52)).drew fun e W => e = .returned (.string y) ∧ W.cell? ⟨v3.heap.size, 3, none⟩ = some (.string y) ∧ Below w.heap.size w W) := (digits_go (d : Int) (by omega) (by omega) _).mono fun e W ⟨h1, h2⟩ => ⟨by rw [HY.out]; exact h1, (h2.cell (p := ⟨v3.heap.size, 3, none⟩) hal).trans ((World.cell?_alloc_at _ _ _ _ (by simp)).trans rfl), ?_⟩
      rotate_left
      · have q1 : Below w.heap.size w v1 := HBV.out
        have q2 := HBB.out
        have q3 := HB3.out
        have z0 := q1.size
        have z1 := HB1.out.size
        exact ((q1.trans (q2.mono (by omega))).trans (q3.mono (by omega))).trans (((Below.refl v3.heap.size v3).alloc (Nat.le_refl _) _).drew.mono (by omega) |>.trans (h2.mono (by show _ ≤ (v3.alloc _).heap.size; simp; omega)))
      go_wp2_with fail
      go_region_held3 (fun wx => wx.cell? ⟨v3.heap.size, 3, none⟩ = some (.string y)) (first | go_keep | assumption) (first | (go_at_call 18; refine HDG.out.mono ?_; rintro e W ⟨rfl, hcw, hbw⟩))
      all_goals (go_wp2; go_ret; exact ⟨rfl, by assumption⟩)
set_option maxRecDepth 100000 in
set_option maxHeartbeats 4000000 in
theorem Loops_two (x y : Int) (hx : -9223372036854775808 ≤ x ∧ x ≤ 9223372036854775807) (hy : -9223372036854775808 ≤ y ∧ y ≤ 9223372036854775807) (w : World) (he : Env w) : Calls Tryz.prog 8 #[.int .i64 x, .int .i64 y, .bool true] w (RckP w) := by
  have HE := hide he
  have HP1 := hide (pick_600 w x hx)
  have HP2 := hide (pick_50 w y hy)
  obtain ⟨d, hd⟩ : ∃ d : Nat, pickS x 600 = (d : Int) := ⟨(pickS x 600).toNat, by have := (pickS_in x 600 (by omega)).1; omega⟩
  have hd6 : d < 600 := by have := (pickS_in x 600 (by omega)).2; omega
  obtain ⟨c, hc⟩ : ∃ c : Nat, pickS y 50 = (c : Int) := ⟨(pickS y 50).toNat, by have := (pickS_in y 50 (by omega)).1; omega⟩
  have hc5 : c < 50 := by have := (pickS_in y 50 (by omega)).2; omega
  rw [hd] at HP1
  rw [hc] at HP2
  have SD : Hid (Small (d : Int)) := ⟨by omega, by omega⟩
  clear he hd hc
  go_enter Tryz.func8, Tryz.ntmps8
  go_wp2_with fail
  refine HP1.out.mono ?_
  rintro e w' ⟨rfl, hw'⟩
  obtain rfl : w = w' := hw'.symm
  clear hw' HP1
  go_wp2_with fail
  refine HP2.out.mono ?_
  rintro e w' ⟨rfl, hw'⟩
  obtain rfl : w = w' := hw'.symm
  clear hw' HP2
  go_wp2_with fail
  refine (digits_go ((d : Int)) (by omega) (by omega) _).mono ?_
  rintro e w1 ⟨he, hb1⟩
  obtain ⟨z1, hz1⟩ : ∃ z : ByteArray, z = ⟨(Lib.itoa ((d : Int))).toArray⟩ := ⟨_, rfl⟩
  have sz1 : (z1.size : Int) ≤ 20 := by have := itoa_len ((d : Int)) (by omega) (by omega); rw [hz1]; simp [ByteArray.size]; omega
  have Hz1 := hide hz1
  clear hz1
  rw [← Hz1.out] at he
  subst he
  have HB1 := hide hb1
  clear hb1
  go_wp2_with fail
  refine (digits_go ((d : Int)) (by omega) (by omega) _).mono ?_
  rintro e w2 ⟨he, hb2⟩
  rw [← Hz1.out] at he
  subst he
  have HB2 := hide (HB1.out.trans (hb2.mono HB1.out.size))
  clear hb2 HB1
  have HC := hide (comp_LpB (d : Int) SD.out)
  go_wp2_with fail
  refine (started_says HC.out (by simp [LpBT, Hz1.out]) _ (HE.out.below HB2.out)).mono ?_
  rintro e v1 ⟨L, M, K, b, cs, X, ow, rfl, hd, hLM, hMR, hb⟩
  obtain rfl := dvs_lit _ _ _ hd (show litVs (codeS (LpBE (d : Int))).cs = some [.int 0, .int d, .int 1, .int 0] from by kernel_rfl)
  have HBV := hide (HB2.out.trans (hb.mono HB2.out.size))
  have HR0 : Hid (LpRel v1 w2.heap.size K L M b (tpC d) ((toldS (.int d)).take 100) (7 * d + 2) 0 v1) := ⟨7 * d + 2, _, X, ow, tp_all d hd6, by omega, hMR, hLM, Below.refl _ _⟩
  have hbz := hb.size
  clear hd hLM hMR hb HC
  go_wp2
  go_loopw [6, 11, 12, 13, 14] (fun r i u3 u4 u5 wr => ∃ j : Nat, j ≤ 6000 ∧ i = .int .i64 j ∧ LpRel v1 w2.heap.size K L M b (tpC d) ((toldS (.int d)).take 100) (7 * d + 2) j wr) (fun _ i _ _ _ _ => 6000 - (intOf i).toNat)
  case atStart => exact ⟨0, by omega, rfl, HR0.out⟩
  case round =>
    obtain ⟨j, hj, rfl, N, s, X, ow, hE, hjN, hMR, hLM, hb⟩ := hrel
    have hp := hE.pos
    have hlt : (j : Int) < 6000 := by omega
    have hbs := hb.size
    obtain ⟨g1, g2⟩ := Ends.piece c N s hE
    by_cases hk : c + 1 < N
    · obtain ⟨F, s', hg, hE'⟩ := g1 hk
      have HRUN := hide (mrun_run hMR hLM (c + 1) F (by omega) hg)
      rw [show ((c + 1 : Nat) : Int) = 1 + (c : Int) by omega] at HRUN
      have HEP := hide hE'
      have hp2 := hE'.pos
      have HB := hide hb
      clear hE hMR hLM hb g1 g2 hg hE'
      go_wp2_with fail
      refine HRUN.out.mono ?_
      rintro e v2 ⟨_, _, rfl, rfl, rfl, hLM2, hb2, X2, ow2, hMR2⟩
      have HLK := hide (mlook_run hMR2 hLM2 hp2.2.2.2)
      have HM2 := hide hMR2
      have HL2 := hide hLM2
      have HBB := hide (HB.out.trans hb2)
      have hz2 := hb2.size
      have hdp : ((s'.st.length - 1 : Nat) : Int) ≤ 2 := by omega
      obtain ⟨dp, hdq⟩ : ∃ dp : Int, dp = ((s'.st.length - 1 : Nat) : Int) := ⟨_, rfl⟩
      rw [← hdq] at HLK hdp
      clear hMR2 hLM2 hb2 HRUN hdq
      go_wp2_with fail
      refine HLK.out.mono ?_
      rintro e v3 ⟨he, hb3⟩
      unfold lookV at he
      subst he
      have HB3 := hide hb3
      have hz3 := hb3.size
      clear hb3 HLK
      go_wp2
      go_roundw
      case rel =>
        have hbe : Below v2.heap.size v2 (v3.alloc (.cells #[.int .i64 0, .int .i64 0, .int .i64 dp, .string ⟨#[]⟩] 52)) := HB3.out.alloc hz3 _
        exact ⟨j + 1, by omega, rfl, N - (c + 1), s', X2, ow2, HEP.out, by omega, HM2.out.below hbe, (hbe.block L (lt_of_some HL2.out)).trans HL2.out, HBB.out.trans (hbe.mono (by omega))⟩
      case measure => simp [intOf]; omega
    · obtain ⟨F, hg⟩ := g2 (by omega)
      have HRUN := hide (mrun_done hMR hLM (c + 1) N F (by omega) hg)
      rw [show ((c + 1 : Nat) : Int) = 1 + (c : Int) by omega] at HRUN
      have HB := hide hb
      clear hE hMR hLM hb g1 g2 hg
      go_wp2_with fail
      refine HRUN.out.mono ?_
      rintro e v2 ⟨_, _, rfl, rfl, rfl, hLM2, hb2, X2, ow2, hME⟩
      have HLK := hide (mlook_end rfl hME hLM2)
      have HBB := hide (HB.out.trans hb2)
      have hz2 := hb2.size
      clear hME hLM2 hb2 HRUN
      rw [told_int' (d : Int) (by omega)] at HLK
      obtain ⟨y, hy⟩ : ∃ y : ByteArray, y = ⟨(Lib.itoa (d : Int)).toArray⟩ := ⟨_, rfl⟩
      rw [← hy] at HLK
      have HY := hide hy
      clear hy
      go_wp2_with fail
      refine HLK.out.mono ?_
      rintro e v3 ⟨he, hb3⟩
      unfold lookV at he
      subst he
      have HB3 := hide hb3
      have hz3 := hb3.size
      clear hb3 HLK
      have hNk : (N : Int) ≤ 1 + (c : Int) := by omega
      have hal : v3.heap.size < (v3.alloc (.cells #[.int .i64 1, .int .i64 0, .int .i64 0, .string y] 52)).heap.size := by simp
      have HDG : Hid (Calls Tryz.prog 18 #[.int .i64 (d : Int)] (v3.alloc (.cells #[.int .i64 1, .int .i64 0, .int .i64 0, .string y] 52)).drew fun e W => e = .returned (.string y) ∧ W.cell? ⟨v3.heap.size, 3, none⟩ = some (.string y) ∧ Below w.heap.size w W) := (digits_go (d : Int) (by omega) (by omega) _).mono fun e W ⟨h1, h2⟩ => ⟨by rw [HY.out]; exact h1, (h2.cell (p := ⟨v3.heap.size, 3, none⟩) hal).trans ((World.cell?_alloc_at _ _ _ _ (by simp)).trans rfl), ?_⟩
      rotate_left
      · have q1 : Below w.heap.size w v1 := HBV.out
        have q2 := HBB.out
        have q3 := HB3.out
        have z0 := q1.size
        have z1 := HB2.out.size
        exact ((q1.trans (q2.mono (by omega))).trans (q3.mono (by omega))).trans (((Below.refl v3.heap.size v3).alloc (Nat.le_refl _) _).drew.mono (by omega) |>.trans (h2.mono (by show _ ≤ (v3.alloc _).heap.size; simp; omega)))
      go_wp2_with fail
      go_region_held3 (fun wx => wx.cell? ⟨v3.heap.size, 3, none⟩ = some (.string y)) (first | go_keep | assumption) (first | (go_at_call 18; refine HDG.out.mono ?_; rintro e W ⟨rfl, hcw, hbw⟩))
      all_goals (go_wp2; go_ret; exact ⟨rfl, by assumption⟩)
theorem Loops_go (x y : Int) (l : Bool) (hx : -9223372036854775808 ≤ x ∧ x ≤ 9223372036854775807) (hy : -9223372036854775808 ≤ y ∧ y ≤ 9223372036854775807) (w : World) (he : Env w) : Calls Tryz.prog 8 #[.int .i64 x, .int .i64 y, .bool l] w (RckP w) := by
  cases l with
  | true => exact Loops_two x y hx hy w he
  | false => exact Loops_one x y hx hy w he
end Go.Proofs.YtlobegpjenabaaaGreatDoor
