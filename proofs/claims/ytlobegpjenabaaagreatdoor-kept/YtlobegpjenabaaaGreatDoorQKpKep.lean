/- Kept of any ints answers true. -/
import Derived.Test.YtlobegpjenabaaaGreatDoorQKpKtp
namespace Go.Proofs.YtlobegpjenabaaaGreatDoor
open Go.RowKit
set_option linter.unusedSimpArgs false
set_option linter.unusedVariables false

/-- What Kept expects. -/
def kepL (a b c : Int) (i : Nat) : List Int := [a, b + i, (i + 1) * c]
theorem told_three (x y z : Int) (hx : -9223372036854775808 ≤ x ∧ x ≤ 9223372036854775807) (hy : -9223372036854775808 ≤ y ∧ y ≤ 9223372036854775807) (hz : -9223372036854775808 ≤ z ∧ z ≤ 9223372036854775807) : (toldS (lstV [0, 0, 0] [x, y, z])).take 100 = spellS [x, y, z] := by
  rw [told_ints _ _ rfl, List.take_of_length_le]
  have := spellS_len [x, y, z] (by intro q hq; simp at hq; rcases hq with rfl | rfl | rfl <;> first | exact itoa_len _ hx.1 hx.2 | exact itoa_len _ hy.1 hy.2 | exact itoa_len _ hz.1 hz.2)
  simp only [List.length_cons, List.length_nil] at this
  omega
theorem says_Kpt' (a b c : Int) (ha : -1000 < a ∧ a < 1000) (hb : -1000 < b ∧ b < 1000) (hc : -1000 < c ∧ c < 1000) : Says (KptT (Lib.itoa a) (Lib.itoa b) (Lib.itoa c)) 5000 [51] [spellS (kepL a b c 0), spellS (kepL a b c 1), spellS (kepL a b c 2)] := by
  have := says_Kpt a b c ⟨by omega, by omega⟩ ⟨by omega, by omega⟩ ⟨by omega, by omega⟩
  rw [told_int' 3 (by decide), told_three _ _ _ (by omega) (by omega) (w64_in _), told_three _ _ _ (by omega) (w64_in _) (w64_in _), told_three _ _ _ (by omega) (w64_in _) (w64_in _),
    w64_of (1 * c) (by omega), w64_of (2 * c) (by omega), w64_of (3 * c) (by omega), w64_of (1 + b) (by omega), w64_of (2 + b) (by omega)] at this
  have e0 : [a, b, 1 * c] = kepL a b c 0 := by unfold kepL; congr 2 <;> first | rfl | omega
  have e1 : [a, 1 + b, 2 * c] = kepL a b c 1 := by unfold kepL; congr 2 <;> first | rfl | omega
  have e2 : [a, 2 + b, 3 * c] = kepL a b c 2 := by unfold kepL; congr 2 <;> first | rfl | omega
  have e3 : Lib.itoa 3 = [51] := by unfold Lib.itoa; rw [if_neg (by decide)]; simp [Lib.decDigits]
  rw [e0, e1, e2, e3] at this
  exact this
set_option maxRecDepth 100000 in
set_option maxHeartbeats 4000000 in
theorem Kept_go (x y z : Int) (hx : -9223372036854775808 ≤ x ∧ x ≤ 9223372036854775807) (hy : -9223372036854775808 ≤ y ∧ y ≤ 9223372036854775807) (hz : -9223372036854775808 ≤ z ∧ z ≤ 9223372036854775807) (w : World) (he : Env w) : Calls Tryz.prog 13 #[.int .i64 x, .int .i64 y, .int .i64 z] w (RckP w) := by
  have ma := tmod3 x
  have mb := tmod3 y
  have mc := tmod3 z
  have HE := hide he
  clear he
  go_enter Tryz.func13, Tryz.ntmps13
  go_wp2_with fail
  generalize z.tmod 1000 = c at mc ⊢
  generalize y.tmod 1000 = b at mb ⊢
  generalize x.tmod 1000 = a at ma ⊢
  refine (digits_go (a) (by omega) (by omega) _).mono ?_
  rintro e w1 ⟨he, hb1⟩
  obtain ⟨z1, hz1⟩ : ∃ z : ByteArray, z = ⟨(Lib.itoa (a)).toArray⟩ := ⟨_, rfl⟩
  have sz1 : (z1.size : Int) ≤ 20 := by have := itoa_len (a) (by omega) (by omega); rw [hz1]; simp [ByteArray.size]; omega
  have Hz1 := hide hz1
  clear hz1
  rw [← Hz1.out] at he
  subst he
  have HB1 := hide hb1
  clear hb1
  go_wp2_with fail
  refine (digits_go (b) (by omega) (by omega) _).mono ?_
  rintro e w2 ⟨he, hb2⟩
  obtain ⟨z2, hz2⟩ : ∃ z : ByteArray, z = ⟨(Lib.itoa (b)).toArray⟩ := ⟨_, rfl⟩
  have sz2 : (z2.size : Int) ≤ 20 := by have := itoa_len (b) (by omega) (by omega); rw [hz2]; simp [ByteArray.size]; omega
  have Hz2 := hide hz2
  clear hz2
  rw [← Hz2.out] at he
  subst he
  have HB2 := hide (HB1.out.trans (hb2.mono HB1.out.size))
  clear hb2 HB1
  go_wp2_with fail
  refine (digits_go (c) (by omega) (by omega) _).mono ?_
  rintro e w3 ⟨he, hb3⟩
  obtain ⟨z3, hz3⟩ : ∃ z : ByteArray, z = ⟨(Lib.itoa (c)).toArray⟩ := ⟨_, rfl⟩
  have sz3 : (z3.size : Int) ≤ 20 := by have := itoa_len (c) (by omega) (by omega); rw [hz3]; simp [ByteArray.size]; omega
  have Hz3 := hide hz3
  clear hz3
  rw [← Hz3.out] at he
  subst he
  have HB3 := hide (HB2.out.trans (hb3.mono HB2.out.size))
  clear hb3 HB2
  go_wp2_with fail
  refine (digits_go (b) (by omega) (by omega) _).mono ?_
  rintro e w4 ⟨he, hb4⟩
  rw [← Hz2.out] at he
  subst he
  have HB4 := hide (HB3.out.trans (hb4.mono HB3.out.size))
  clear hb4 HB3
  have HS := hide (says_Kpt' a b c ma mb mc)
  go_wp2_with fail
  refine (says_says HS.out (by simp [KptT, Hz1.out, Hz2.out, Hz3.out]) _ (HE.out.below HB4.out)).mono ?_
  rintro e w5 ⟨vo, rfl, hvo, hb5⟩
  obtain ⟨ao, co, rfl, hco⟩ := row_strs hvo
  have HCO := hide hco
  have HB5 := hide (HB4.out.trans (hb5.mono HB4.out.size))
  clear hb5 HB4
  clear hvo hco
  go_wp2
  have hzw := HB5.out.size
  go_loopw [14] (fun i wr => ∃ q : Nat, q ≤ 3 ∧ i = .int .i64 q ∧ Below w5.heap.size w5 wr) (fun i _ => 3 - (intOf i).toNat)
  case atStart => exact ⟨0, by omega, rfl, Below.refl _ _⟩
  case round =>
    obtain ⟨q, hq, rfl, hb⟩ := hrel
    have HB := hide hb
    have hbz := hb.size
    have hq3 : q = 0 ∨ q = 1 ∨ q = 2 ∨ q = 3 := by omega
    rcases hq3 with rfl | rfl | rfl | rfl
    · obtain ⟨g, rfl, hg, hc⟩ := HCO.out 0 (by simp)
      have d0 := (hb.cell (p := ⟨g, 0, none⟩) hg).trans hc
      have hgr : g < wr.heap.size := by omega
      simp only [List.getElem_cons_zero] at d0
      have HSP : Hid (Calls Tryz.prog 23 #[.slice (some ⟨wr.heap.size, 0, none⟩) 3 3] (wr.alloc (.cells #[.int .i64 a, .int .i64 (b), .int .i64 (c)] 3)).drew (StrP (wr.alloc (.cells #[.int .i64 a, .int .i64 (b), .int .i64 (c)] 3)).drew (spellS (kepL a b c 0)))) := by
        have := spelled_go [a, b, c] (wr.alloc (.cells #[.int .i64 a, .int .i64 (b), .int .i64 (c)] 3)).drew (some ⟨wr.heap.size, 0, none⟩) 3 (by simp) (by intro q hq; simp at hq; rcases hq with rfl | rfl | rfl <;> omega) (three_at wr a (b) (c))
        rw [show [a, b, c] = kepL a b c 0 from by unfold kepL; congr 2 <;> first | rfl | omega | (congr 1; omega)] at this
        exact this
      have HKK : Hid (∀ (W : World), Below (wr.alloc (.cells #[.int .i64 a, .int .i64 (b), .int .i64 (c)] 3)).drew.heap.size (wr.alloc (.cells #[.int .i64 a, .int .i64 (b), .int .i64 (c)] 3)).drew W → W.cell? ⟨g, 0, none⟩ = some (.string ⟨(spellS (kepL a b c 0)).toArray⟩) ∧ Below w5.heap.size w5 W) := fun W hW => by
        have h1 : Below wr.heap.size wr W := (((Below.refl wr.heap.size wr).alloc (Nat.le_refl _) _).drew).trans (hW.mono (by show _ ≤ (wr.alloc _).heap.size; simp))
        exact ⟨(h1.cell (p := ⟨g, 0, none⟩) hgr).trans d0, HB.out.trans (h1.mono hbz)⟩
      obtain ⟨s, hs⟩ : ∃ s : ByteArray, s = ⟨(spellS (kepL a b c 0)).toArray⟩ := ⟨_, rfl⟩
      have HSS : Hid (Calls Tryz.prog 23 #[.slice (some ⟨wr.heap.size, 0, none⟩) 3 3] (wr.alloc (.cells #[.int .i64 a, .int .i64 (b), .int .i64 (c)] 3)).drew fun e W => e = .returned (.string s) ∧ W.cell? ⟨g, 0, none⟩ = some (.string s) ∧ Below w5.heap.size w5 W) := HSP.out.mono fun e W ⟨h1, h2⟩ => ⟨by rw [hs]; exact h1, by rw [hs]; exact (HKK.out W h2).1, (HKK.out W h2).2⟩
      rw [← hs] at d0
      clear hs HSP HKK hc hb
      have hw1 : IntKind.i64.wrap (b) = b := by rw [IntKind.wrap_i64]; omega
      have hw2 : IntKind.i64.wrap (c) = c := by rw [IntKind.wrap_i64]; omega
      have hw3 : IntKind.i64.wrap 1 = 1 := by rw [IntKind.wrap_i64]; rfl
      go_wp2_with fail
      go_region_held3 (fun wx => wx.cell? ⟨g, 0, none⟩ = some (.string s)) (first | go_keep | assumption) (first | (go_at_call 23; refine HSS.out.mono ?_; rintro e W ⟨rfl, hcw, hbw⟩))
      all_goals (go_wp2; go_roundw)
      case rel => exact ⟨1, by omega, rfl, by assumption⟩
      case measure => simp [intOf]
    · obtain ⟨g, rfl, hg, hc⟩ := HCO.out 1 (by simp)
      have d0 := (hb.cell (p := ⟨g, 1, none⟩) hg).trans hc
      have hgr : g < wr.heap.size := by omega
      simp only [List.getElem_cons_zero, List.getElem_cons_succ] at d0
      have HSP : Hid (Calls Tryz.prog 23 #[.slice (some ⟨wr.heap.size, 0, none⟩) 3 3] (wr.alloc (.cells #[.int .i64 a, .int .i64 (b + 1), .int .i64 (2 * c)] 3)).drew (StrP (wr.alloc (.cells #[.int .i64 a, .int .i64 (b + 1), .int .i64 (2 * c)] 3)).drew (spellS (kepL a b c 1)))) := by
        have := spelled_go [a, b + 1, 2 * c] (wr.alloc (.cells #[.int .i64 a, .int .i64 (b + 1), .int .i64 (2 * c)] 3)).drew (some ⟨wr.heap.size, 0, none⟩) 3 (by simp) (by intro q hq; simp at hq; rcases hq with rfl | rfl | rfl <;> omega) (three_at wr a (b + 1) (2 * c))
        rw [show [a, b + 1, 2 * c] = kepL a b c 1 from by unfold kepL; congr 2 <;> first | rfl | omega | (congr 1; omega)] at this
        exact this
      have HKK : Hid (∀ (W : World), Below (wr.alloc (.cells #[.int .i64 a, .int .i64 (b + 1), .int .i64 (2 * c)] 3)).drew.heap.size (wr.alloc (.cells #[.int .i64 a, .int .i64 (b + 1), .int .i64 (2 * c)] 3)).drew W → W.cell? ⟨g, 1, none⟩ = some (.string ⟨(spellS (kepL a b c 1)).toArray⟩) ∧ Below w5.heap.size w5 W) := fun W hW => by
        have h1 : Below wr.heap.size wr W := (((Below.refl wr.heap.size wr).alloc (Nat.le_refl _) _).drew).trans (hW.mono (by show _ ≤ (wr.alloc _).heap.size; simp))
        exact ⟨(h1.cell (p := ⟨g, 1, none⟩) hgr).trans d0, HB.out.trans (h1.mono hbz)⟩
      obtain ⟨s, hs⟩ : ∃ s : ByteArray, s = ⟨(spellS (kepL a b c 1)).toArray⟩ := ⟨_, rfl⟩
      have HSS : Hid (Calls Tryz.prog 23 #[.slice (some ⟨wr.heap.size, 0, none⟩) 3 3] (wr.alloc (.cells #[.int .i64 a, .int .i64 (b + 1), .int .i64 (2 * c)] 3)).drew fun e W => e = .returned (.string s) ∧ W.cell? ⟨g, 1, none⟩ = some (.string s) ∧ Below w5.heap.size w5 W) := HSP.out.mono fun e W ⟨h1, h2⟩ => ⟨by rw [hs]; exact h1, by rw [hs]; exact (HKK.out W h2).1, (HKK.out W h2).2⟩
      rw [← hs] at d0
      clear hs HSP HKK hc hb
      have hw1 : IntKind.i64.wrap (b + 1) = b + 1 := by rw [IntKind.wrap_i64]; omega
      have hw2 : IntKind.i64.wrap (2 * c) = 2 * c := by rw [IntKind.wrap_i64]; omega
      have hw3 : IntKind.i64.wrap 2 = 2 := by rw [IntKind.wrap_i64]; rfl
      go_wp2_with fail
      go_region_held3 (fun wx => wx.cell? ⟨g, 1, none⟩ = some (.string s)) (first | go_keep | assumption) (first | (go_at_call 23; refine HSS.out.mono ?_; rintro e W ⟨rfl, hcw, hbw⟩))
      all_goals (go_wp2; go_roundw)
      case rel => exact ⟨2, by omega, rfl, by assumption⟩
      case measure => simp [intOf]
    · obtain ⟨g, rfl, hg, hc⟩ := HCO.out 2 (by simp)
      have d0 := (hb.cell (p := ⟨g, 2, none⟩) hg).trans hc
      have hgr : g < wr.heap.size := by omega
      simp only [List.getElem_cons_zero, List.getElem_cons_succ] at d0
      have HSP : Hid (Calls Tryz.prog 23 #[.slice (some ⟨wr.heap.size, 0, none⟩) 3 3] (wr.alloc (.cells #[.int .i64 a, .int .i64 (b + 2), .int .i64 (3 * c)] 3)).drew (StrP (wr.alloc (.cells #[.int .i64 a, .int .i64 (b + 2), .int .i64 (3 * c)] 3)).drew (spellS (kepL a b c 2)))) := by
        have := spelled_go [a, b + 2, 3 * c] (wr.alloc (.cells #[.int .i64 a, .int .i64 (b + 2), .int .i64 (3 * c)] 3)).drew (some ⟨wr.heap.size, 0, none⟩) 3 (by simp) (by intro q hq; simp at hq; rcases hq with rfl | rfl | rfl <;> omega) (three_at wr a (b + 2) (3 * c))
        rw [show [a, b + 2, 3 * c] = kepL a b c 2 from by unfold kepL; congr 2 <;> first | rfl | omega | (congr 1; omega)] at this
        exact this
      have HKK : Hid (∀ (W : World), Below (wr.alloc (.cells #[.int .i64 a, .int .i64 (b + 2), .int .i64 (3 * c)] 3)).drew.heap.size (wr.alloc (.cells #[.int .i64 a, .int .i64 (b + 2), .int .i64 (3 * c)] 3)).drew W → W.cell? ⟨g, 2, none⟩ = some (.string ⟨(spellS (kepL a b c 2)).toArray⟩) ∧ Below w5.heap.size w5 W) := fun W hW => by
        have h1 : Below wr.heap.size wr W := (((Below.refl wr.heap.size wr).alloc (Nat.le_refl _) _).drew).trans (hW.mono (by show _ ≤ (wr.alloc _).heap.size; simp))
        exact ⟨(h1.cell (p := ⟨g, 2, none⟩) hgr).trans d0, HB.out.trans (h1.mono hbz)⟩
      obtain ⟨s, hs⟩ : ∃ s : ByteArray, s = ⟨(spellS (kepL a b c 2)).toArray⟩ := ⟨_, rfl⟩
      have HSS : Hid (Calls Tryz.prog 23 #[.slice (some ⟨wr.heap.size, 0, none⟩) 3 3] (wr.alloc (.cells #[.int .i64 a, .int .i64 (b + 2), .int .i64 (3 * c)] 3)).drew fun e W => e = .returned (.string s) ∧ W.cell? ⟨g, 2, none⟩ = some (.string s) ∧ Below w5.heap.size w5 W) := HSP.out.mono fun e W ⟨h1, h2⟩ => ⟨by rw [hs]; exact h1, by rw [hs]; exact (HKK.out W h2).1, (HKK.out W h2).2⟩
      rw [← hs] at d0
      clear hs HSP HKK hc hb
      have hw1 : IntKind.i64.wrap (b + 2) = b + 2 := by rw [IntKind.wrap_i64]; omega
      have hw2 : IntKind.i64.wrap (3 * c) = 3 * c := by rw [IntKind.wrap_i64]; omega
      have hw3 : IntKind.i64.wrap 3 = 3 := by rw [IntKind.wrap_i64]; rfl
      go_wp2_with fail
      go_region_held3 (fun wx => wx.cell? ⟨g, 2, none⟩ = some (.string s)) (first | go_keep | assumption) (first | (go_at_call 23; refine HSS.out.mono ?_; rintro e W ⟨rfl, hcw, hbw⟩))
      all_goals (go_wp2; go_roundw)
      case rel => exact ⟨3, by omega, rfl, by assumption⟩
      case measure => simp [intOf]
    · clear hb
      go_wp2
      go_ret
      exact ⟨rfl, HB5.out.trans (HB.out.mono hzw)⟩
end Go.Proofs.YtlobegpjenabaaaGreatDoor
