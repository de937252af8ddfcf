/- read.tokenValue. -/
import Derived.Test.YtlobegpjenabaaaGreatDoorImpData
namespace Go.Proofs.YtlobegpjenabaaaGreatDoor
open Go.RowKit
set_option linter.unusedSimpArgs false
set_option linter.unusedVariables false

theorem sortU_dig (c : UInt8) (h : (sortU c == 1) = true) : 48 ≤ c.toNat ∧ c.toNat ≤ 57 := by
  have := sortI_one (b := (c.toNat : Int)) h
  omega
theorem valF_parse : ∀ (l : List UInt8) (a : Nat) (k : Nat), (l.all fun c => sortU c == 1) = true → a < 10 ^ k → k + l.length ≤ 18 → ∃ u : Nat, Lib.parseUintM (2 ^ 64 - 1) a l = .ok u ∧ valF a l = u ∧ u < 10 ^ (k + l.length)
  | [], a, k, _, ha, _ => ⟨a, by simp [Lib.parseUintM], rfl, by simpa using ha⟩
  | c :: r, a, k, hd, ha, hk => by
    simp only [List.all_cons, Bool.and_eq_true] at hd
    obtain ⟨h1, h2⟩ := sortU_dig c hd.1
    have hlt : 10 * a + (c.toNat - 48) < 10 ^ (k + 1) := by rw [Nat.pow_succ]; omega
    have hp : 10 ^ (k + 1) ≤ 10 ^ 18 := Nat.pow_le_pow_right (by omega) (by simp at hk; omega)
    obtain ⟨u, e1, e2, e3⟩ := valF_parse r (10 * a + (c.toNat - 48)) (k + 1) hd.2 hlt (by simp at hk; omega)
    refine ⟨u, ?_, ?_, by rw [List.length_cons]; rw [show k + (r.length + 1) = k + 1 + r.length from by omega]; exact e3⟩
    · have hk17 : 10 ^ k ≤ 10 ^ 17 := Nat.pow_le_pow_right (by omega) (by simp at hk; omega)
      rw [Lib.parseUintM, if_pos ⟨h1, h2⟩, if_neg (by omega), if_neg (by omega), Nat.mul_comm a 10]; exact e1
    · rw [valF, ← e2]; congr 1; omega
theorem parse_num (t : List UInt8) (hd : digits (body t) = true) (h18 : (body t).length ≤ 18) : Lib.parseIntB 64 t = .ok (if minus t then -(val (body t)) else val (body t)) := by
  have hne : (body t).isEmpty = false ∧ ((body t).all fun c => sortU c == 1) = true := by
    unfold digits at hd; rw [Bool.and_eq_true] at hd; exact ⟨by simpa using hd.1, hd.2⟩
  obtain ⟨u, e1, e2, e3⟩ := valF_parse (body t) 0 0 hne.2 (by simp) (by omega)
  have hu : u < 10 ^ 18 := Nat.lt_of_lt_of_le e3 (Nat.pow_le_pow_right (by omega) (by omega))
  have hB : Lib.parseUintB 64 (body t) = .ok u := by
    unfold Lib.parseUintB
    rw [if_neg (by intro h; rw [h] at hne; exact absurd hne.1 (by simp))]; exact e1
  have hval : val (body t) = u := e2
  cases t with
  | nil => simp [body, minus, digits] at hd
  | cons c r =>
    by_cases hm : c.toNat = 45
    · have hmin : minus (c :: r) = true := by simp [minus, hm]
      have hb : body (c :: r) = r := by unfold body; rw [hmin]; rfl
      rw [hb] at hB hval
      simp only [Lib.parseIntB]
      rw [if_pos (Or.inr hm), hB, hmin, hb, hval]
      simp only [hm]
      rw [if_neg (by simp), if_neg (by omega)]
    · have hmin : minus (c :: r) = false := by simp [minus, hm]
      have hb : body (c :: r) = c :: r := by unfold body; rw [hmin]; rfl
      have h43 : ¬ c.toNat = 43 := by
        intro h
        have := hne.2
        rw [hb, List.all_cons, Bool.and_eq_true] at this
        have := sortU_dig c this.1
        omega
      rw [hb] at hB hval
      simp only [Lib.parseIntB]
      rw [if_neg (by omega), hB, hmin, hb, hval]
      simp only [hm]
      rw [if_neg (by simp; omega), if_neg (by simp)]; rfl

theorem bt_data (t : List UInt8) : (⟨t.toArray⟩ : ByteArray).data.toList = t := by simp
theorem bt_of (s : ByteArray) : (⟨s.data.toList.toArray⟩ : ByteArray) = s := by cases s; simp

/-- What a token's kind says. -/
theorem tokK_cases (t : List UInt8) : (tokK t = 0 ∧ tokD t = none) ∨ (tokK t = 5 ∧ ∃ b, t = [35, if b then 116 else 102] ∧ tokD t = some (boo b)) ∨ (tokK t = 4 ∧ digits (body t) = true ∧ (body t).length ≤ 18 ∧ tokD t = some (num (if minus t then -(val (body t)) else val (body t)))) ∨ (tokK t = 6 ∧ tokD t = some (sym t)) := by
  unfold tokK tokD
  by_cases h1 : t = [35, 116]
  · subst h1; exact Or.inr (Or.inl ⟨rfl, true, rfl, rfl⟩)
  by_cases h2 : t = [35, 102]
  · subst h2; exact Or.inr (Or.inl ⟨rfl, false, rfl, rfl⟩)
  rw [if_neg (by simp [h1, h2]), if_neg h1, if_neg h2]
  by_cases hd : digits (body t) = true
  · rw [if_pos hd, if_pos hd]
    by_cases hl : 18 < (body t).length
    · rw [if_pos hl, if_pos hl]; exact Or.inl ⟨rfl, rfl⟩
    · rw [if_neg hl, if_neg hl]; exact Or.inr (Or.inr (Or.inl ⟨rfl, hd, by omega, rfl⟩))
  · rw [if_neg hd, if_neg hd]
    by_cases hf : (first1 t || hashed t) = true
    · rw [if_pos hf, if_pos hf]; exact Or.inl ⟨rfl, rfl⟩
    · rw [if_neg hf, if_neg hf]; exact Or.inr (Or.inr (Or.inr ⟨rfl, rfl⟩))

set_option maxHeartbeats 1000000 in
theorem clone_any (s : ByteArray) (hs : s.size ≤ 1000) (w : World) :
    Calls Tryz.prog 142 #[.string s] w fun e w' => e = .returned (.string s) ∧ Below w.heap.size w w' := by
  go_enter Tryz.func142, Tryz.ntmps142
  go_wp2_with fail
  refine (Tryz.stringslite_Clone s _ (by omega)).mono ?_
  rintro e w1 ⟨rfl, hb⟩
  have HB := hide hb
  clear hb
  go_wp2
  go_ret
  exact ⟨rfl, HB.out⟩

set_option maxRecDepth 100000 in
set_option maxHeartbeats 1000000 in
/-- tokenValue, of a token that may stand. -/
theorem tokenValue_any (s : ByteArray) (p : Int) (hs : s.size ≤ 1000) (d : D) (hd : tokD s.data.toList = some d) (w : World) :
    Calls Tryz.prog 87 #[.agg #[.int .i64 (tokK s.data.toList), .int .i64 p, .string s]] w fun e w' => ∃ u, e = .returned u ∧ atomI d = some u ∧ Below w.heap.size w w' := by
  rcases tokK_cases s.data.toList with ⟨h1, h2⟩ | ⟨h1, b, h2, h3⟩ | ⟨h1, h2, h3, h4⟩ | ⟨h1, h2⟩
  · rw [h2] at hd; cases hd
  · rw [h3] at hd; cases hd
    rw [h1]
    have hb : (s.toList == [35, 116]) = b := by rw [ByteArray.toList_eq, h2]; cases b <;> rfl
    clear h1 h2 h3
    go_enter Tryz.func87, Tryz.ntmps87
    go_wp2
    go_ret
    exact ⟨_, rfl, by rw [← hb]; rfl, (Below.refl _ _).alloc (Nat.le_refl _) _⟩
  · obtain ⟨q, hq⟩ : ∃ q : Int, q = if minus s.data.toList then -(val (body s.data.toList)) else val (body s.data.toList) := ⟨_, rfl⟩
    have hp := parse_num _ h2 h3
    rw [← hq] at h4 hp
    rw [h4] at hd; cases hd
    rw [h1]
    have HP := hide (Tryz.strconv_ParseInt_10_at64_ok s (by omega) q hp)
    clear h1 h2 h3 h4 hq hp
    go_enter Tryz.func87, Tryz.ntmps87
    go_wp2_with fail
    refine (HP.out _).mono ?_
    rintro e w1 ⟨rfl, hw⟩
    have hb : Below w.heap.size w w1 := by
      rcases hw with rfl | ⟨t, rfl⟩
      · exact (Below.refl _ _).alloc (Nat.le_refl _) _
      · exact ((Below.refl _ _).alloc (Nat.le_refl _) _).trans ((Lib.bytesWorld_below _ _ _).mono (by simp))
    have HB := hide hb
    clear hw hb
    go_wp2
    go_ret
    exact ⟨_, rfl, rfl, HB.out⟩
  · rw [h2] at hd; cases hd
    rw [h1]
    clear h1 h2
    go_enter Tryz.func87, Tryz.ntmps87
    go_wp2_with fail
    refine (clone_any s hs _).mono ?_
    rintro e w1 ⟨rfl, hb1⟩
    have HB := hide (show Below w.heap.size w w1 from ((Below.refl _ _).alloc (Nat.le_refl _) _).trans (hb1.mono (by simp)))
    clear hb1
    go_wp2
    go_ret
    exact ⟨_, rfl, by simp only [sym, atomI, bt_of]; rfl, HB.out⟩
end Go.Proofs.YtlobegpjenabaaaGreatDoor
