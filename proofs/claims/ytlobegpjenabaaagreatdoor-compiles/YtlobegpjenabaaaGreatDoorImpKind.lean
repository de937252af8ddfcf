/- read: the kind of a piece. -/
import Derived.Test.YtlobegpjenabaaaGreatDoorImpLeaf
namespace Go.Proofs.YtlobegpjenabaaaGreatDoor
open Go.RowKit
set_option linter.unusedSimpArgs false
set_option linter.unusedVariables false

theorem sortU_hash (c : UInt8) : (sortU c == 3) = (c == 35) := by
  rw [Bool.eq_iff_iff, beq_iff_eq, beq_iff_eq]
  constructor
  · intro h
    have : (c.toNat : Int) = 35 := by
      unfold sortU sortI at h
      split at h
      · omega
      · split at h
        · omega
        · split at h
          · rename_i h3; simpa using h3
          · split at h <;> omega
    exact UInt8.toNat.inj (by simpa using (show c.toNat = 35 from by omega))
  · intro h; subst h; rfl
theorem idx_hash : ∀ (l : List UInt8), 0 ≤ Lib.index l [35] ↔ 35 ∈ l
  | [] => by simp [Lib.index]
  | c :: r => by
    have ih := idx_hash r
    have hg := Lib.index_ge r [35]
    simp only [Lib.index]
    split
    · rename_i h
      have : c = 35 := by simp [List.isPrefixOf] at h; exact h.symm
      subst this; simp
    · rename_i h
      have hc : ¬ 35 = c := by simpa [List.isPrefixOf] using h
      simp only [List.mem_cons, hc, false_or]
      rw [← ih]
      split
      · rename_i h2; simp at h2; omega
      · rename_i h2; simp at h2; omega
theorem contains_hash (l : List UInt8) : Lib.contains l [35] = hashed l := by
  unfold Lib.contains hashed
  rw [Bool.eq_iff_iff, decide_eq_true_eq, idx_hash, List.any_eq_true]
  constructor
  · intro h; exact ⟨35, h, rfl⟩
  · rintro ⟨x, hx, h⟩; rw [sortU_hash, beq_iff_eq] at h; rw [← h]; exact hx

/-- The kind of a token: 0 wrong, 4 an int, 5 a bool, 6 a symbol. -/
def tokK (t : List UInt8) : Int := if t = [35, 116] ∨ t = [35, 102] then 5 else if digits (body t) then (if 18 < (body t).length then 0 else 4) else if first1 t || hashed t then 0 else 6
/-- The kind of a piece: 1 and 2 the brackets, 3 the quote sign, 7 a gap. -/
def kindP (t : List UInt8) : Int :=
  if (t.headD 0).toNat = 40 then 1 else if (t.headD 0).toNat = 41 then 2 else if (t.headD 0).toNat = 39 then 3
  else if (t.headD 0).toNat = 32 ∨ (t.headD 0).toNat = 10 ∨ (t.headD 0).toNat = 59 then 7
  else if sortU (t.headD 0) = 0 then 0 else tokK t

set_option maxHeartbeats 400000 in
theorem intKind_any (s : ByteArray) (hs : s.size ≤ maxLen) (w : World) :
    Calls Tryz.prog 203 #[.string s] w fun e w' => e = .returned (.int .i64 (if 18 < s.data.toList.length then 0 else 4)) ∧ w' = w := by
  rw [len_eq]
  unfold maxLen at hs
  by_cases h : 18 < s.size
  · have i1 : (18 : Int) < (s.size : Int) := by omega
    rw [if_pos h]
    go_enter Tryz.func203, Tryz.ntmps203
    go_wp2
    go_ret
    exact ⟨rfl, rfl⟩
  · have i1 : ¬ (18 : Int) < (s.size : Int) := by omega
    rw [if_neg h]
    go_enter Tryz.func203, Tryz.ntmps203
    go_wp2
    go_ret
    exact ⟨rfl, rfl⟩

theorem trim_body (s : ByteArray) (h0 : 0 < s.size) : Lib.trimPrefix s.data.toList [45] = body s.data.toList := by
  rw [first_at s h0]
  unfold Lib.trimPrefix Lib.hasPrefix body
  by_cases h : s[0] = 45
  · rw [h]; simp [minus, List.isPrefixOf]
  · have h1 : ([45] : List UInt8).isPrefixOf (s[0] :: List.drop 1 s.data.toList) = false := by simp [List.isPrefixOf]; exact fun e => h e.symm
    have h2 : minus (s[0] :: List.drop 1 s.data.toList) = false := by
      simp only [minus]; rw [beq_eq_false_iff_ne]; intro e; exact h (UInt8.toNat.inj (by simpa using e))
    rw [h1, h2]; rfl

set_option maxRecDepth 100000 in
set_option maxHeartbeats 1000000 in
theorem tokenKind_any (s : ByteArray) (h0 : 0 < s.size) (hs : s.size ≤ 1000) (w : World) (hm : MaxOk w) :
    Calls Tryz.prog 137 #[.string s] w fun e w' => e = .returned (.int .i64 (tokK s.data.toList)) ∧ w' = w := by
  have hr : ∃ r : Int, r = tokK s.data.toList := ⟨_, rfl⟩
  obtain ⟨r, hr⟩ := hr
  rw [← hr]
  have HR := hide hr
  clear hr
  obtain ⟨mm, hmm⟩ := hm
  have HT := hide (trim_body s h0)
  have hbl : (body s.data.toList).length ≤ s.size := by
    unfold body; split
    · simp
    · simp
  have hbs : (⟨(body s.data.toList).toArray⟩ : ByteArray).size = (body s.data.toList).length := by simp [ByteArray.size]
  cases t1 : (s.toList == [35, 116]) with
  | true =>
    have e1 := tok_eq s _ t1
    go_enter Tryz.func137, Tryz.ntmps137
    go_wp2_with (go_at_call 201; refine (Tryz.strings_TrimPrefix _ _ _).mono ?_; rintro e w' ⟨rfl, rfl⟩)
    go_ret
    exact ⟨ret_int (by rw [HR.out, e1]; rfl), rfl⟩
  | false =>
  cases t2 : (s.toList == [35, 102]) with
  | true =>
    have e1 := tok_eq s _ t2
    go_enter Tryz.func137, Tryz.ntmps137
    go_wp2_with (go_at_call 201; refine (Tryz.strings_TrimPrefix _ _ _).mono ?_; rintro e w' ⟨rfl, rfl⟩)
    go_ret
    exact ⟨ret_int (by rw [HR.out, e1]; rfl), rfl⟩
  | false =>
    have n12 : ¬ (s.data.toList = [35, 116] ∨ s.data.toList = [35, 102]) := fun h => h.elim (tok_ne s _ t1) (tok_ne s _ t2)
    have HK : Hid (r = if digits (body s.data.toList) then (if 18 < (body s.data.toList).length then 0 else 4) else if first1 s.data.toList || hashed s.data.toList then 0 else 6) := by show _ = _; rw [HR.out, tokK, if_neg n12]
    have HF : Hid (first1 s.data.toList = digB s[0].toNat) := by show _ = _; rw [first_at s h0, ← sortI_dig]; rfl
    have HCH := hide (contains_hash s.data.toList)
    clear n12
    go_enter Tryz.func137, Tryz.ntmps137
    go_wp2_with fail
    refine (Tryz.strings_TrimPrefix s ⟨#[45]⟩ _).mono ?_
    rintro e w' ⟨rfl, rfl⟩
    have ht : Lib.trimPrefix s.data.toList (⟨#[45]⟩ : ByteArray).data.toList = body s.data.toList := HT.out
    rw [ht]
    clear ht
    obtain ⟨bs, hbs'⟩ : ∃ bs : ByteArray, bs = ⟨(body s.data.toList).toArray⟩ := ⟨_, rfl⟩
    rw [← hbs']
    have hbd : bs.data.toList = body s.data.toList := by rw [hbs']
    have hbz : bs.size ≤ 1000 := by rw [hbs', hbs]; omega
    have hbm : bs.size ≤ maxLen := by unfold maxLen; omega
    have HBD := hide hbd
    have HBS := hide hbs'
    rw [← hbd] at hbl
    clear hbd hbs' hbs
    have HCC : Hid (Lib.contains s.data.toList (⟨#[35]⟩ : ByteArray).data.toList = hashed s.data.toList) := HCH.out
    go_wp2_with fail
    · have he : bs.toList = [] := by assumption
      have HD : Hid (digits (body s.data.toList) = false) := by show _ = _; rw [← HBD.out, ← ByteArray.toList_eq, he]; rfl
      refine (isDigit_any _ _).mono ?_
      rintro e w' ⟨rfl, rfl⟩
      cases hd : digB s[0].toNat with
      | true =>
        go_wp2
        go_ret
        exact ⟨ret_int (by rw [HK.out, HD.out, HF.out, hd]; rfl), rfl⟩
      | false =>
        go_wp2_with fail
        refine (Tryz.strings_Contains s ⟨#[35]⟩ mm _ (by omega) hmm).mono ?_
        rintro e w' ⟨rfl, rfl⟩
        rw [HCC.out]
        cases hh : hashed s.data.toList with
        | true =>
          go_wp2
          go_ret
          exact ⟨ret_int (by rw [HK.out, HD.out, HF.out, hd, hh]; rfl), rfl⟩
        | false =>
          go_wp2
          go_ret
          exact ⟨ret_int (by rw [HK.out, HD.out, HF.out, hd, hh]; rfl), rfl⟩
    · have he : ¬ bs.toList = [] := by assumption
      have hie : bs.toList.isEmpty = false := by cases h : bs.toList with | nil => exact absurd h he | cons a b => rfl
      refine (isDigits_any bs hbm _).mono ?_
      rintro e w' ⟨rfl, rfl⟩
      have HD : Hid (digits (body s.data.toList) = (bs.data.toList.all fun c => sortU c == 1)) := by
        show _ = _
        rw [← HBD.out, digits]
        rw [ByteArray.toList_eq] at he
        have : bs.data.toList.isEmpty = false := by cases h : bs.data.toList with | nil => exact absurd h he | cons a b => rfl
        rw [this]; rfl
      cases hal : (bs.data.toList.all fun c => sortU c == 1) with
      | true =>
        obtain ⟨q, hq⟩ : ∃ q : Int, q = if 18 < bs.data.toList.length then 0 else 4 := ⟨_, rfl⟩
        have HQ := hide hq
        have HIK := intKind_any bs hbm w'
        rw [← hq] at HIK
        have HIK := hide HIK
        clear hq
        go_wp2_with (go_at_call 203; refine HIK.out.mono ?_; rintro e w' ⟨rfl, rfl⟩)
        go_ret
        exact ⟨ret_int (by rw [HK.out, HD.out, hal, HQ.out, ← HBD.out]; rfl), rfl⟩
      | false =>
        go_wp2_with fail
        refine (isDigit_any _ _).mono ?_
        rintro e w' ⟨rfl, rfl⟩
        cases hd : digB s[0].toNat with
        | true =>
          go_wp2
          go_ret
          exact ⟨ret_int (by rw [HK.out, HD.out, hal, HF.out, hd]; rfl), rfl⟩
        | false =>
          go_wp2_with fail
          refine (Tryz.strings_Contains s ⟨#[35]⟩ mm _ (by omega) hmm).mono ?_
          rintro e w' ⟨rfl, rfl⟩
          rw [HCC.out]
          cases hh : hashed s.data.toList with
          | true =>
            go_wp2
            go_ret
            exact ⟨ret_int (by rw [HK.out, HD.out, hal, HF.out, hd, hh]; rfl), rfl⟩
          | false =>
            go_wp2
            go_ret
            exact ⟨ret_int (by rw [HK.out, HD.out, hal, HF.out, hd, hh]; rfl), rfl⟩

set_option maxRecDepth 100000 in
set_option maxHeartbeats 1000000 in
theorem kindOf_any (s : ByteArray) (h0 : 0 < s.size) (hs : s.size ≤ 1000) (w : World) (hm : MaxOk w) :
    Calls Tryz.prog 83 #[.string s] w fun e w' => e = .returned (.int .i64 (kindP s.data.toList)) ∧ w' = w := by
  have hd : s.data.toList.headD 0 = s[0] := by rw [first_at s h0]; rfl
  have hr : ∃ r : Int, r = kindP s.data.toList := ⟨_, rfl⟩
  obtain ⟨r, hr⟩ := hr
  rw [← hr]
  have HR : Hid (r = if s[0].toNat = 40 then 1 else if s[0].toNat = 41 then 2 else if s[0].toNat = 39 then 3 else if s[0].toNat = 32 ∨ s[0].toNat = 10 ∨ s[0].toNat = 59 then 7 else if sortI s[0].toNat = 0 then 0 else tokK s.data.toList) := by
    show _ = _; rw [hr, kindP, hd]; rfl
  clear hr hd
  have HTK := hide (tokenKind_any s h0 hs w hm)
  clear hm
  have hb0 : (0 : Int) ≤ (s[0].toNat : Int) := by omega
  have hb1 : (s[0].toNat : Int) ≤ 255 := by have := s[0].toNat_lt; omega
  by_cases h40 : s[0].toNat = 40
  · have b40 : ((s[0].toNat : Int) == 40) = true := by rw [beq_iff_eq]; omega
    have HH := hide h40
    clear h40
    go_enter Tryz.func83, Tryz.ntmps83
    go_wp2
    go_ret
    exact ⟨ret_int (by rw [HR.out, HH.out]; rfl), rfl⟩
  have b40 : ((s[0].toNat : Int) == 40) = false := by rw [beq_eq_false_iff_ne]; omega
  by_cases h41 : s[0].toNat = 41
  · have b41 : ((s[0].toNat : Int) == 41) = true := by rw [beq_iff_eq]; omega
    have HH := hide h41
    clear h41
    go_enter Tryz.func83, Tryz.ntmps83
    go_wp2
    go_ret
    exact ⟨ret_int (by rw [HR.out, HH.out]; rfl), rfl⟩
  have b41 : ((s[0].toNat : Int) == 41) = false := by rw [beq_eq_false_iff_ne]; omega
  by_cases h39 : s[0].toNat = 39
  · have b39 : ((s[0].toNat : Int) == 39) = true := by rw [beq_iff_eq]; omega
    have HH := hide h39
    clear h39
    go_enter Tryz.func83, Tryz.ntmps83
    go_wp2
    go_ret
    exact ⟨ret_int (by rw [HR.out, HH.out]; rfl), rfl⟩
  have b39 : ((s[0].toNat : Int) == 39) = false := by rw [beq_eq_false_iff_ne]; omega
  by_cases h32 : s[0].toNat = 32
  · have b32 : ((s[0].toNat : Int) == 32) = true := by rw [beq_iff_eq]; omega
    have HH := hide h32
    clear h32
    go_enter Tryz.func83, Tryz.ntmps83
    go_wp2
    go_ret
    exact ⟨ret_int (by rw [HR.out, HH.out]; rfl), rfl⟩
  have b32 : ((s[0].toNat : Int) == 32) = false := by rw [beq_eq_false_iff_ne]; omega
  by_cases h10 : s[0].toNat = 10
  · have b10 : ((s[0].toNat : Int) == 10) = true := by rw [beq_iff_eq]; omega
    have HH := hide h10
    clear h10
    go_enter Tryz.func83, Tryz.ntmps83
    go_wp2
    go_ret
    exact ⟨ret_int (by rw [HR.out, HH.out]; rfl), rfl⟩
  have b10 : ((s[0].toNat : Int) == 10) = false := by rw [beq_eq_false_iff_ne]; omega
  by_cases h59 : s[0].toNat = 59
  · have b59 : ((s[0].toNat : Int) == 59) = true := by rw [beq_iff_eq]; omega
    have HH := hide h59
    clear h59
    go_enter Tryz.func83, Tryz.ntmps83
    go_wp2
    go_ret
    exact ⟨ret_int (by rw [HR.out, HH.out]; rfl), rfl⟩
  have b59 : ((s[0].toNat : Int) == 59) = false := by rw [beq_eq_false_iff_ne]; omega
  have HN : Hid (r = if sortI s[0].toNat = 0 then 0 else tokK s.data.toList) := by show _ = _; rw [HR.out, if_neg h40, if_neg h41, if_neg h39, if_neg (by omega)]
  clear h40 h41 h39 h32 h10 h59
  cases hb : (sortI s[0].toNat != 0) with
  | false =>
    go_enter Tryz.func83, Tryz.ntmps83
    go_wp2_with (go_at_call 134; refine (isTokenByte_any _ (by omega) (by omega) _).mono ?_; rintro e w' ⟨rfl, rfl⟩)
    go_ret
    exact ⟨ret_int (by rw [HN.out, if_pos (by simpa using hb)]), rfl⟩
  | true =>
    go_enter Tryz.func83, Tryz.ntmps83
    go_wp2_with fail
    refine (isTokenByte_any _ hb0 hb1 _).mono ?_
    rintro e w' ⟨rfl, rfl⟩
    go_wp2_with fail
    refine HTK.out.mono ?_
    rintro e w' ⟨rfl, rfl⟩
    go_wp2
    go_ret
    exact ⟨ret_int (by rw [HN.out, if_neg (by simpa using hb)]), rfl⟩
end Go.Proofs.YtlobegpjenabaaaGreatDoor
