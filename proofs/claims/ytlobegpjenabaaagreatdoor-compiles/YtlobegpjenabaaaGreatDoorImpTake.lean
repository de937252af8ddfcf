/- read: take. -/
import Derived.Test.YtlobegpjenabaaaGreatDoorImpAddW
namespace Go.Proofs.YtlobegpjenabaaaGreatDoor
open Go.RowKit
set_option linter.unusedSimpArgs false
set_option linter.unusedVariables false

/-- A list's end. -/
def closeS (forms : List D) : List (Bool × List D) → Sum Int (List D × List (Bool × List D))
  | (false, ds) :: os => .inr (addS forms os (lst ds))
  | _ => .inl 2
/-- One piece more. -/
def takeS (forms : List D) (opens : List (Bool × List D)) (t : List UInt8) : Sum Int (List D × List (Bool × List D)) :=
  if kindP t = 1 then (if 20 ≤ opens.length then .inl 3 else .inr (forms, (false, []) :: opens))
  else if kindP t = 3 then (if 20 ≤ opens.length then .inl 3 else .inr (forms, (true, []) :: opens))
  else if kindP t = 2 then closeS forms opens
  else match tokD t with
    | some d => if kindP t = 0 then .inl 2 else .inr (addS forms opens d)
    | none => .inl 2

/-- What a call of take comes to. -/
def TakePost (w : World) (R B : Nat) (r : Sum Int (List D × List (Bool × List D))) (e : Ending) (w' : World) : Prop :=
  UpdR R B w w' ∧ (∀ er, r = .inl er → e = .returned (.int .i64 er)) ∧ (∀ st, r = .inr st → e = .returned (.int .i64 0) ∧ ∃ fv ov fs its, RdOk w' R B st.1 st.2 fv ov fs its)

/-- Of a piece that begins as no token does, or as one does. -/
theorem kindP_tok (t : List UInt8) (h1 : ¬ kindP t = 1) (h2 : ¬ kindP t = 2) (h3 : ¬ kindP t = 3) (h7 : ¬ kindP t = 7) : kindP t = 0 ∨ kindP t = tokK t := by
  by_cases a : (t.headD 0).toNat = 40
  · exact absurd (by unfold kindP; rw [if_pos a]) h1
  by_cases b : (t.headD 0).toNat = 41
  · exact absurd (by unfold kindP; rw [if_neg a, if_pos b]) h2
  by_cases c : (t.headD 0).toNat = 39
  · exact absurd (by unfold kindP; rw [if_neg a, if_neg b, if_pos c]) h3
  by_cases d : (t.headD 0).toNat = 32 ∨ (t.headD 0).toNat = 10 ∨ (t.headD 0).toNat = 59
  · exact absurd (by unfold kindP; rw [if_neg a, if_neg b, if_neg c, if_pos d]) h7
  unfold kindP
  rw [if_neg a, if_neg b, if_neg c, if_neg d]
  by_cases e : sortU (t.headD 0) = 0
  · rw [if_pos e]; exact Or.inl rfl
  · rw [if_neg e]; exact Or.inr rfl

set_option maxRecDepth 100000 in
set_option maxHeartbeats 1000000 in
theorem take_any (w : World) (R B : Nat) (forms : List D) (opens : List (Bool × List D)) (fv ov : Value) (fs : List Value) (its : List (Value × List Value)) (s : ByteArray) (p : Int) (h : RdOk w R B forms opens fv ov fs its) (hB : B ≤ w.heap.size) (h20 : opens.length ≤ 20) (hcnt : cntS forms opens ≤ 1000) (hs : s.size ≤ 1000) (h7 : ¬ kindP s.data.toList = 7) :
    Calls Tryz.prog 54 #[.pointer (some ⟨R, 0, none⟩), .agg #[.int .i64 (kindP s.data.toList), .int .i64 p, .string s]] w (TakePost w R B (takeS forms opens s.data.toList)) := by
  have hb0 : ∀ k, Below w.heap.size w (w.alloc (.cells #[.int .i64 k, .int .i64 p, .string s] 128)) := fun k => (Below.refl _ _).alloc (Nat.le_refl _) _
  have HOK := hide (fun k => h.below (hb0 k))
  have HB0 := hide hb0
  have hB1 : ∀ k, B ≤ (w.alloc (.cells #[.int .i64 k, .int .i64 p, .string s] 128)).heap.size := fun k => by simp; omega
  have HB1 := hide hB1
  clear h hb0 hB1
  by_cases hk1 : kindP s.data.toList = 1
  · have HT : Hid (takeS forms opens s.data.toList = if 20 ≤ opens.length then .inl 3 else .inr (forms, (false, []) :: opens)) := by
      show _ = _; unfold takeS; rw [hk1]; rfl
    rw [hk1]
    generalize takeS forms opens s.data.toList = r at *
    clear hk1 h7
    go_enter Tryz.func54, Tryz.ntmps54
    go_wp2_with fail
    refine (begin_any _ R B forms opens fv ov fs its false (HOK.out 1) (HB1.out 1) h20).mono ?_
    rintro e w1 ⟨h1, h2⟩
    by_cases hl : 20 ≤ opens.length
    · obtain ⟨rfl, rfl⟩ := h1 hl
      have HR : Hid (r = .inl 3) := by show _ = _; rw [HT.out, if_pos hl]
      clear h1 h2
      go_wp2
      go_ret
      exact ⟨UpdR.of_below (HB0.out 1), (fun er h => by rw [HR.out] at h; cases h; rfl), (fun st h => by rw [HR.out] at h; cases h)⟩
    · obtain ⟨rfl, ov', its', hok', hup'⟩ := h2 (by omega)
      have HR : Hid (r = .inr (forms, (false, []) :: opens)) := by show _ = _; rw [HT.out, if_neg hl]
      have HOK' := hide hok'
      have HUP' := hide hup'
      clear h1 h2 hok' hup'
      go_wp2
      go_ret
      exact ⟨(UpdR.of_below (HB0.out 1)).trans HUP'.out, (fun er h => by rw [HR.out] at h; cases h), (fun st h => by rw [HR.out] at h; cases h; exact ⟨rfl, fv, ov', fs, its', HOK'.out⟩)⟩
  by_cases hk3 : kindP s.data.toList = 3
  · have HT : Hid (takeS forms opens s.data.toList = if 20 ≤ opens.length then .inl 3 else .inr (forms, (true, []) :: opens)) := by
      show _ = _; unfold takeS; rw [hk3]; rfl
    rw [hk3]
    generalize takeS forms opens s.data.toList = r at *
    clear hk3 h7
    go_enter Tryz.func54, Tryz.ntmps54
    go_wp2_with fail
    refine (begin_any _ R B forms opens fv ov fs its true (HOK.out 3) (HB1.out 3) h20).mono ?_
    rintro e w1 ⟨h1, h2⟩
    by_cases hl : 20 ≤ opens.length
    · obtain ⟨rfl, rfl⟩ := h1 hl
      have HR : Hid (r = .inl 3) := by show _ = _; rw [HT.out, if_pos hl]
      clear h1 h2
      go_wp2
      go_ret
      exact ⟨UpdR.of_below (HB0.out 3), (fun er h => by rw [HR.out] at h; cases h; rfl), (fun st h => by rw [HR.out] at h; cases h)⟩
    · obtain ⟨rfl, ov', its', hok', hup'⟩ := h2 (by omega)
      have HR : Hid (r = .inr (forms, (true, []) :: opens)) := by show _ = _; rw [HT.out, if_neg hl]
      have HOK' := hide hok'
      have HUP' := hide hup'
      clear h1 h2 hok' hup'
      go_wp2
      go_ret
      exact ⟨(UpdR.of_below (HB0.out 3)).trans HUP'.out, (fun er h => by rw [HR.out] at h; cases h), (fun st h => by rw [HR.out] at h; cases h; exact ⟨rfl, fv, ov', fs, its', HOK'.out⟩)⟩
  by_cases hk2 : kindP s.data.toList = 2
  · have HT : Hid (takeS forms opens s.data.toList = closeS forms opens) := by
      show _ = _; unfold takeS; rw [hk2]; rfl
    rw [hk2]
    generalize takeS forms opens s.data.toList = r at *
    clear hk2 h7 hk1 hk3
    go_enter Tryz.func54, Tryz.ntmps54
    go_wp2_with fail
    refine (close_any _ R B forms opens fv ov fs its (HOK.out 2) (HB1.out 2) h20 hcnt).mono ?_
    rintro e w1 ⟨h1, h2⟩
    match opens with
    | [] =>
      obtain ⟨rfl, hb⟩ := h1 (Or.inl rfl)
      have HR : Hid (r = .inl 2) := HT.out
      have HBB := hide hb
      clear h1 h2 hb
      go_wp2
      go_ret
      exact ⟨(UpdR.of_below (HB0.out 2)).trans (UpdR.of_below HBB.out), (fun er h => by rw [HR.out] at h; cases h; rfl), (fun st h => by rw [HR.out] at h; cases h)⟩
    | (true, ds) :: os =>
      obtain ⟨rfl, hb⟩ := h1 (Or.inr ⟨_, _, rfl⟩)
      have HR : Hid (r = .inl 2) := HT.out
      have HBB := hide hb
      clear h1 h2 hb
      go_wp2
      go_ret
      exact ⟨(UpdR.of_below (HB0.out 2)).trans (UpdR.of_below HBB.out), (fun er h => by rw [HR.out] at h; cases h; rfl), (fun st h => by rw [HR.out] at h; cases h)⟩
    | (false, ds) :: os =>
      obtain ⟨rfl, fv', ov', fs', its', hok', hup'⟩ := h2 ds os rfl
      have HR : Hid (r = .inr (addS forms os (lst ds))) := HT.out
      have HOK' := hide hok'
      have HUP' := hide hup'
      clear h1 h2 hok' hup'
      go_wp2
      go_ret
      exact ⟨(UpdR.of_below (HB0.out 2)).trans HUP'.out, (fun er h => by rw [HR.out] at h; cases h), (fun st h => by rw [HR.out] at h; cases h; exact ⟨rfl, fv', ov', fs', its', HOK'.out⟩)⟩
  have hkt := kindP_tok s.data.toList hk1 hk2 hk3 h7
  have HT : Hid (takeS forms opens s.data.toList = match tokD s.data.toList with | some d => if kindP s.data.toList = 0 then .inl 2 else .inr (addS forms opens d) | none => .inl 2) := by
    show _ = _; unfold takeS; rw [if_neg hk1, if_neg hk3, if_neg hk2]
  generalize hr : takeS forms opens s.data.toList = r at *
  by_cases hk0 : kindP s.data.toList = 0
  · have HR : Hid (r = .inl 2) := by
      show _ = _; rw [HT.out]
      cases tokD s.data.toList with
      | none => rfl
      | some d => simp only [hk0, if_true]
    rw [hk0]
    clear hk0 hk1 hk2 hk3 h7 hkt hr
    go_enter Tryz.func54, Tryz.ntmps54
    go_wp2
    go_ret
    exact ⟨UpdR.of_below (HB0.out 0), (fun er h => by rw [HR.out] at h; cases h; rfl), (fun st h => by rw [HR.out] at h; cases h)⟩
  · have hkk : kindP s.data.toList = tokK s.data.toList := by rcases hkt with h | h; exact absurd h hk0; exact h
    cases htd : tokD s.data.toList with
    | none =>
      rcases tokK_cases s.data.toList with ⟨h1, h2⟩ | ⟨h1, b, h2, h3⟩ | ⟨h1, h2, h3, h4⟩ | ⟨h1, h2⟩
      · exact absurd (hkk.trans h1) hk0
      · rw [h3] at htd; cases htd
      · rw [h4] at htd; cases htd
      · rw [h2] at htd; cases htd
    | some d =>
      have HR : Hid (r = .inr (addS forms opens d)) := by show _ = _; rw [HT.out, htd]; simp only [hk0, if_false]
      have HTV := hide (fun w' => tokenValue_any s p hs d htd w')
      obtain ⟨k, hk⟩ : ∃ k, k = kindP s.data.toList := ⟨_, rfl⟩
      rw [hkk] at hk
      have b1 : (k == 1) = false := by rw [beq_eq_false_iff_ne, hk, ← hkk]; exact hk1
      have b2 : (k == 2) = false := by rw [beq_eq_false_iff_ne, hk, ← hkk]; exact hk2
      have b3 : (k == 3) = false := by rw [beq_eq_false_iff_ne, hk, ← hkk]; exact hk3
      have b0 : (k == 0) = false := by rw [beq_eq_false_iff_ne, hk, ← hkk]; exact hk0
      rw [hkk, ← hk]
      have HTV : Hid (∀ w', Calls Tryz.prog 87 #[.agg #[.int .i64 k, .int .i64 p, .string s]] w' fun e w'' => ∃ u, e = .returned u ∧ atomI d = some u ∧ Below w'.heap.size w' w'') := by rw [hk]; exact HTV.out
      clear hk0 hk1 hk2 hk3 h7 hkt hkk hk htd hr HT
      go_enter Tryz.func54, Tryz.ntmps54
      go_wp2_with fail
      refine (HTV.out _).mono ?_
      rintro e w1 ⟨u, rfl, hat, hb1⟩
      have hbw : Below w.heap.size w w1 := (HB0.out k).trans (hb1.mono (by simp))
      have hiv : IV w1 (21 - opens.length) u d := by
        rw [show 21 - opens.length = (20 - opens.length) + 1 from by omega]
        cases d with
        | agg l => cases hat
        | _ => exact hat
      have hok1 := (HOK.out k).below hb1
      obtain ⟨t1, x1, rfl⟩ := IV.form _ _ _ hiv
      have HIV := hide hiv
      have HOK1 := hide hok1
      have HBW := hide hbw
      have hB2 : B ≤ w1.heap.size := by have := hbw.size; omega
      clear hiv hok1 hbw hb1 hat
      go_wp2_with fail
      refine (add_any w1 R B forms opens fv ov fs its d (.iface t1 x1) HOK1.out hB2 h20 hcnt HIV.out _ rfl).mono ?_
      rintro e w2 ⟨rfl, fv', ov', fs', its', hok2, hU2⟩
      have HOK2 := hide hok2
      have HU2 := hide hU2
      clear hok2 hU2
      go_wp2
      go_ret
      exact ⟨(UpdR.of_below HBW.out).trans HU2.out, (fun er h => by rw [HR.out] at h; cases h), (fun st h => by rw [HR.out] at h; cases h; exact ⟨rfl, fv', ov', fs', its', HOK2.out⟩)⟩
end Go.Proofs.YtlobegpjenabaaaGreatDoor
