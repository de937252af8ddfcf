/- Deep of any number answers true. -/
import Derived.Test.YtlobegpjenabaaaGreatDoorQKpDep
import Derived.Test.YtlobegpjenabaaaGreatDoorQKpMac
import Derived.Test.YtlobegpjenabaaaGreatDoorQKpPick
import Derived.Test.YtlobegpjenabaaaGreatDoorQMacRun5
namespace Go.Proofs.YtlobegpjenabaaaGreatDoor
open Go.RowKit
set_option linter.unusedSimpArgs false
set_option linter.unusedVariables false

theorem tri_eq : ∀ (v : Nat), 2 * tri v = (v : Int) * ((v : Int) + 1)
  | 0 => rfl
  | v + 1 => by
    have h := tri_eq v
    have e : (((v + 1 : Nat) : Int)) = (v : Int) + 1 := by omega
    simp only [tri]
    rw [e]
    have e1 : (v : Int) * ((v : Int) + 1) = (v : Int) * v + v := by rw [Int.mul_add, Int.mul_one]
    have e2 : ((v : Int) + 1) * ((v : Int) + 1 + 1) = (v : Int) * v + 3 * v + 2 := by
      simp only [Int.add_mul, Int.mul_add, Int.mul_one, Int.one_mul]
      omega
    rw [e2]
    rw [e1] at h
    omega
/-- Behind a Run at whose end the program has failed. -/
def FailP (B : Nat) (w : World) (L M b m : Nat) (er : Int) (d : Nat) (o : List (List UInt8)) (x y : Value) (w2 : World) : Prop := x = .int .i64 (m : Nat) ∧ y = .int .i64 0 ∧ LM w2 L M ∧ Below B w w2 ∧ ∃ X' ow', ME B w2 X' ow' M b 2 er d [] o
theorem mrun_fail {B K : Nat} {w : World} {X : Nat → Prop} {ow : Nat → Option Nat} {L M b : Nat} {C : Cd} {s : MS} (h : MR B K w X ow M b C s) (hT : ErrT w) (hB : 0 < B) (hL : LM w L M) (n m F : Nat) (er : Int) (d : Nat) (o : List (List UInt8)) (hn : n ≤ 100000) (hg : goS C F s n 0 = some (m, .err er d o)) :
    Calls Tryz.prog 27 #[.pointer (some ⟨L, 0, none⟩), .int .i64 n] w (TupP (FailP B w L M b m er d o)) := by
  refine lrun_go w L M n _ hL (hide ((run_err h hT hB n F hn m er d o hg).mono ?_))
  rintro e w2 ⟨rfl, X', ow', hM, hG⟩
  exact ⟨_, _, rfl, rfl, rfl, h.ki hG _ (by decide) _ _ hL, h.bel hG, X', ow', hM⟩
set_option maxRecDepth 100000 in
set_option maxHeartbeats 4000000 in
theorem Deep_go (x : Int) (hx : -9223372036854775808 ≤ x ∧ x ≤ 9223372036854775807) (w : World) (he : Env w) (hT : ErrT w) : Calls Tryz.prog 9 #[.int .i64 x] w (RckP w) := by
  have HE := hide he
  have HT := hide hT
  have HP := hide (pick_400 w x hx)
  obtain ⟨d, hd⟩ : ∃ d : Nat, pickS x 400 = (d : Int) := ⟨(pickS x 400).toNat, by have := (pickS_in x 400 (by omega)).1; omega⟩
  have hd4 : d < 400 := by have := (pickS_in x 400 (by omega)).2; omega
  rw [hd] at HP
  have SD : Hid (Small (d : Int)) := ⟨by omega, by omega⟩
  clear he hd hT
  go_enter Tryz.func9, Tryz.ntmps9
  go_wp2_with fail
  refine HP.out.mono ?_
  rintro e w' ⟨rfl, hw'⟩
  obtain rfl : w = w' := hw'.symm
  clear hw' HP
  go_wp2_with fail
  refine (digits_go ((d : Int)) (by omega) (by omega) _).mono ?_
  rintro e w1 ⟨he, hb1⟩
  obtain ⟨z1, hz1⟩ : ∃ z : ByteArray, z = ⟨(Lib.itoa ((d : Int))).toArray⟩ := ⟨_, rfl⟩
  have sz1 : (z1.size : Int) ≤ 20 := by have := itoa_len ((d : Int)) (by omega) (by omega); rw [hz1]; simp [ByteArray.size]; omega
  have Hz1 := hide hz1
  clear hz1
  rw [← Hz1.out] at he
  subst he
  have HB1 := hide hb1
  clear hb1
  have HC := hide (comp_Dp (d : Int) SD.out)
  go_wp2_with fail
  refine (started_says HC.out (by simp [DpT, Hz1.out]) _ (HE.out.below HB1.out)).mono ?_
  rintro e v1 ⟨L, M, K, b, cs, X, ow, rfl, hds, hLM, hMR, hb⟩
  obtain rfl := dvs_lit _ _ _ hds (show litVs (codeS (DpE (d : Int))).cs = some [.int d, .int 0, .int 0, .int 1] from by kernel_rfl)
  have HBV := hide (HB1.out.trans (hb.mono HB1.out.size))
  have hbz := hb.size
  have hz1 := HB1.out.size
  have hTv : ErrT v1 := HT.out.below HBV.out HT.out.lt
  have hgl := HT.out.lt
  by_cases hlt : (d : Int) < 199
  · obtain ⟨F, hg⟩ := dp_good d (by omega)
    have HRUN := hide (mrun_done hMR hLM 5000 (4 * d + 2) F (by decide) hg)
    clear hds hLM hMR hb HC hg hTv
    go_wp2_with fail
    refine HRUN.out.mono ?_
    rintro e v2 ⟨_, _, rfl, rfl, rfl, hLM2, hb2, X2, ow2, hME⟩
    have HLK := hide (mlook_end rfl hME hLM2)
    have HBB := hide hb2
    have hz2 := hb2.size
    clear hME hLM2 hb2 HRUN
    have htr := tri_in d
    have hti : -9223372036854775808 ≤ tri d ∧ tri d ≤ 9223372036854775807 := by omega
    have hsq := tri_eq d
    have hw1 : IntKind.i64.wrap ((d : Int) + 1) = (d : Int) + 1 := by rw [IntKind.wrap_i64]; omega
    have hw2 : IntKind.i64.wrap ((d : Int) * ((d : Int) + 1)) = (d : Int) * ((d : Int) + 1) := by rw [IntKind.wrap_i64]; omega
    have hw3 : IntKind.i64.wrap (((d : Int) * ((d : Int) + 1)).tdiv 2) = tri d := by rw [← hsq, Int.mul_tdiv_cancel_left _ (by decide), IntKind.wrap_i64]; omega
    rw [told_int' _ hti] at HLK
    obtain ⟨T, hTq⟩ : ∃ T, T = tri d := ⟨_, rfl⟩
    rw [← hTq] at HLK hw3 hti
    obtain ⟨y, hy⟩ : ∃ y : ByteArray, y = ⟨(Lib.itoa T).toArray⟩ := ⟨_, rfl⟩
    rw [← hy] at HLK
    have HY := hide hy
    have hmd : ((4 * d + 2 : Nat) : Int) ≤ 5000 := by omega
    clear hy hTq hsq htr
    go_wp2_with fail
    refine HLK.out.mono ?_
    rintro e v3 ⟨he, hb3⟩
    unfold lookV at he
    subst he
    have HB3 := hide hb3
    have hz3 := hb3.size
    clear hb3 HLK
    have hal : v3.heap.size < (v3.alloc (.cells #[.int .i64 1, .int .i64 0, .int .i64 0, .string y] 52)).heap.size := by simp
    have HDG : Hid (Calls Tryz.prog 18 #[.int .i64 T] (v3.alloc (.cells #[.int .i64 1, .int .i64 0, .int .i64 0, .string y] 52)).drew fun e W => e = .returned (.string y) ∧ (W.cell? ⟨v3.heap.size, 0, none⟩ = some (.int .i64 1) ∧ W.cell? ⟨v3.heap.size, 3, none⟩ = some (.string y)) ∧ Below w.heap.size w W) := (digits_go T hti.1 hti.2 _).mono fun e W ⟨h1, h2⟩ => ⟨by rw [HY.out]; exact h1, ⟨(h2.cell (p := ⟨v3.heap.size, 0, none⟩) hal).trans ((World.cell?_alloc_at _ _ _ _ (by simp)).trans rfl), (h2.cell (p := ⟨v3.heap.size, 3, none⟩) hal).trans ((World.cell?_alloc_at _ _ _ _ (by simp)).trans rfl)⟩, ?_⟩
    rotate_left
    · have q1 := HBV.out
      have q2 := HBB.out
      have q3 := HB3.out
      exact ((q1.trans (q2.mono (by omega))).trans (q3.mono (by omega))).trans (((Below.refl v3.heap.size v3).alloc (Nat.le_refl _) _).drew.mono (by omega) |>.trans (h2.mono (by show _ ≤ (v3.alloc _).heap.size; simp; omega)))
    clear hti
    go_wp2_with fail
    go_region_held3 (fun wx => wx.cell? ⟨v3.heap.size, 0, none⟩ = some (.int .i64 1) ∧ wx.cell? ⟨v3.heap.size, 3, none⟩ = some (.string y)) (first | go_keep | assumption) (first | (go_at_call 18; refine HDG.out.mono ?_; rintro e W ⟨rfl, hcw, hbw⟩))
    all_goals (go_wp2; go_ret; exact ⟨rfl, by assumption⟩)
  · obtain ⟨F, hg⟩ := dp_bad d (by omega) hd4
    have HRUN := hide (mrun_fail hMR hTv (by omega) hLM 5000 596 F 9 200 [] (by decide) hg)
    clear hds hLM hMR hb HC hg hTv
    go_wp2_with fail
    refine HRUN.out.mono ?_
    rintro e v2 ⟨_, _, rfl, rfl, rfl, hLM2, hb2, X2, ow2, hME⟩
    have HLK := hide (mlook_end rfl hME hLM2)
    have HBB := hide hb2
    have hz2 := hb2.size
    clear hME hLM2 hb2 HRUN
    go_wp2_with fail
    refine HLK.out.mono ?_
    rintro e v3 ⟨he, hb3⟩
    unfold lookV at he
    subst he
    have HB3 := hide hb3
    have hz3 := hb3.size
    clear hb3 HLK
    go_wp2
    go_ret
    have q1 := HBV.out
    have q2 := HBB.out
    have q3 := HB3.out
    exact ⟨rfl, ((q1.trans (q2.mono (by omega))).trans (q3.mono (by omega))).trans ((Below.refl v3.heap.size v3).alloc (Nat.le_refl _) _ |>.mono (by omega))⟩
end Go.Proofs.YtlobegpjenabaaaGreatDoor
