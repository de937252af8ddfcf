/- The two ways of reading come to one: a stack of what is open, and a descent. -/
import Derived.Test.YtlobegpjenabaaaGreatDoorL06
namespace Go.Proofs.YtlobegpjenabaaaGreatDoor
open Go.RowKit
set_option linter.unusedSimpArgs false
set_option linter.unusedVariables false

/-- At the end of a text. -/
def finS (s : ByteArray) : Sum (Int × Nat) (List D × List (Bool × List D)) → Res (List D)
  | .inl e => .inl e
  | .inr st => if st.2.isEmpty then .inr st.1 else .inl (2, s.size)
/-- What comes of the text from place i on. -/
def GS (s : ByteArray) (hs : s.size ≤ 1000) (n i : Nat) (st : List D × List (Bool × List D)) : Res (List D) := finS s (feedP (pcsB s hs n i) st)

theorem dataS_GS (s : ByteArray) (hs : s.size ≤ 1000) : dataS s = GS s hs (s.size + 1) 0 ([], []) := by
  unfold dataS GS; rw [dif_pos hs]
  cases feedP (pcsB s hs (s.size + 1) 0) ([], []) <;> rfl
theorem pcsB_fuel (s : ByteArray) (hs : s.size ≤ 1000) : ∀ (n m i : Nat), s.size - i < n → s.size - i < m → pcsB s hs n i = pcsB s hs m i
  | 0, _, _, h, _ => absurd h (by omega)
  | _, 0, _, _, h => absurd h (by omega)
  | n + 1, m + 1, i, h1, h2 => by
    rw [pcsB, pcsB]
    by_cases hi : i < s.size
    · have hl := lenP_pos s i hi
      rw [if_pos hi, if_pos hi, pcsB_fuel s hs n m (i + lenP (s.data.toList.drop i)) (by omega) (by omega)]
    · rw [if_neg hi, if_neg hi]
/-- From place i on, with fuel enough. -/
def G (s : ByteArray) (hs : s.size ≤ 1000) (i : Nat) (st : List D × List (Bool × List D)) : Res (List D) := GS s hs (s.size - i + 1) i st
theorem G_end (s : ByteArray) (hs : s.size ≤ 1000) (i : Nat) (st : List D × List (Bool × List D)) (hi : ¬ i < s.size) : G s hs i st = finS s (.inr st) := by
  unfold G GS; rw [pcsB, if_neg hi]; rfl
theorem G_gap (s : ByteArray) (hs : s.size ≤ 1000) (i : Nat) (st : List D × List (Bool × List D)) (hi : i < s.size) (hk : kindP (pieceAt s i).data.toList = 7) : G s hs i st = G s hs (i + lenP (s.data.toList.drop i)) st := by
  have hl := lenP_pos s i hi
  unfold G GS
  rw [pcsB, if_pos hi, dif_pos hk, pcsB_fuel s hs (s.size - i) (s.size - (i + lenP (s.data.toList.drop i)) + 1) _ (by omega) (by omega)]
theorem G_take (s : ByteArray) (hs : s.size ≤ 1000) (i : Nat) (st : List D × List (Bool × List D)) (hi : i < s.size) (hk : ¬ kindP (pieceAt s i).data.toList = 7) : G s hs i st = match takeS st.1 st.2 (pieceAt s i).data.toList with | .inl e => .inl (e, i) | .inr st' => G s hs (i + lenP (s.data.toList.drop i)) st' := by
  have hl := lenP_pos s i hi
  unfold G GS
  rw [pcsB, if_pos hi, dif_neg hk, pcsB_fuel s hs (s.size - i) (s.size - (i + lenP (s.data.toList.drop i)) + 1) _ (by omega) (by omega)]
  simp only [feedP]
  cases takeS st.1 st.2 (pieceAt s i).data.toList <;> rfl
theorem pieceAt_list (s : ByteArray) (i : Nat) : (pieceAt s i).data.toList = (s.data.toList.drop i).take (lenP (s.data.toList.drop i)) := by
  unfold pieceAt; rw [Lib.extract_data]; congr 1; omega

/-- A byte that is no token's, nor begins a comment, is a piece, or a gap, by itself. -/
theorem one_piece (s : ByteArray) (i : Nat) (hi : i < s.size) (h0 : sortU s[i] = 0) (h59 : ¬ s[i].toNat = 59) : lenP (s.data.toList.drop i) = 1 ∧ (pieceAt s i).data.toList = [s[i]] := by
  have hl : lenP (s.data.toList.drop i) = 1 := by
    rw [drop_at s i hi]; unfold lenP
    simp [h0, h59]
  refine ⟨hl, ?_⟩
  rw [pieceAt_list, hl, drop_at s i hi]; rfl
theorem kindP_one (c : UInt8) : kindP [c] = if c.toNat = 40 then 1 else if c.toNat = 41 then 2 else if c.toNat = 39 then 3 else if c.toNat = 32 ∨ c.toNat = 10 ∨ c.toNat = 59 then 7 else if sortU c = 0 then 0 else tokK [c] := rfl
theorem sortU_special (c : UInt8) (h : c.toNat = 40 ∨ c.toNat = 41 ∨ c.toNat = 39 ∨ c.toNat = 32 ∨ c.toNat = 10 ∨ c.toNat = 59) : sortU c = 0 := by
  unfold sortU
  rcases h with h | h | h | h | h | h <;> rw [h] <;> rfl

theorem skipB_cm : ∀ l : List UInt8, skipB true l = cmN l + skipB false (l.drop (cmN l))
  | [] => rfl
  | c :: r => by
    have ih := skipB_cm r
    by_cases h : c.toNat = 10
    · simp only [cmN, skipB, h, if_true, List.drop_zero, or_true]; omega
    · simp only [cmN, skipB, h, if_false, List.drop_succ_cons]; omega
theorem skipB_idem : ∀ (l : List UInt8) (b : Bool), skipB false (l.drop (skipB b l)) = 0
  | [], b => by simp [skipB]
  | c :: r, false => by
    have h1 := skipB_idem r false; have h2 := skipB_idem r true
    by_cases a : c.toNat = 32 ∨ c.toNat = 10
    · simp only [skipB]; rw [if_pos a, List.drop_succ_cons]; exact h1
    · by_cases b : c.toNat = 59
      · simp only [skipB]; rw [if_neg a, if_pos b, List.drop_succ_cons]; exact h2
      · simp only [skipB]; rw [if_neg a, if_neg b, List.drop_zero]; simp only [skipB]; rw [if_neg a, if_neg b]
  | c :: r, true => by
    have h1 := skipB_idem r false; have h2 := skipB_idem r true
    by_cases a : c.toNat = 10
    · simp only [skipB]; rw [if_pos a, List.drop_succ_cons]; exact h1
    · simp only [skipB]; rw [if_neg a, List.drop_succ_cons]; exact h2
theorem skipTo_idem (l : List UInt8) (i : Nat) : skipTo l (skipTo l i) = skipTo l i := by
  have h := skipB_idem (l.drop i) false
  rw [List.drop_drop] at h
  show skipTo l i + skipB false (l.drop (skipTo l i)) = skipTo l i
  unfold skipTo at *
  omega
theorem not_gap (s : ByteArray) (j : Nat) (hj : j < s.size) (h : skipTo s.data.toList j = j) : ¬ s[j].toNat = 32 ∧ ¬ s[j].toNat = 10 ∧ ¬ s[j].toNat = 59 := by
  refine ⟨fun e => ?_, fun e => ?_, fun e => ?_⟩
  · have := skip_gap s j hj (Or.inl e); have := le_skipTo s.data.toList (j + 1); omega
  · have := skip_gap s j hj (Or.inr e); have := le_skipTo s.data.toList (j + 1); omega
  · have h1 := skip_cm s j hj e
    have h2 := cm_go s j hj (by omega)
    have h3 : j + 1 ≤ commentTo s.data.toList (j + 1) := by unfold commentTo; omega
    omega

/-- Behind a gap. -/
theorem G_skip (s : ByteArray) (hs : s.size ≤ 1000) : ∀ (n i : Nat) (st : List D × List (Bool × List D)), s.size - i ≤ n → i ≤ s.size → G s hs i st = G s hs (skipTo s.data.toList i) st
  | n, i, st, hn, hi => by
    by_cases hlt : i < s.size
    · by_cases h1 : s[i].toNat = 32 ∨ s[i].toNat = 10
      · have hsp := sortU_special s[i] (by omega)
        obtain ⟨hl, hp⟩ := one_piece s i hlt hsp (by omega)
        cases n with
        | zero => omega
        | succ n =>
          rw [G_gap s hs i st hlt (by rw [hp, kindP_one, if_neg (by omega), if_neg (by omega), if_neg (by omega), if_pos (by omega)]), hl, G_skip s hs n (i + 1) st (by omega) (by omega), skip_gap s i hlt h1]
      · by_cases h2 : s[i].toNat = 59
        · have hsp := sortU_special s[i] (by omega)
          have hl : lenP (s.data.toList.drop i) = cmN (s.data.toList.drop i) := by rw [drop_at s i hlt]; unfold lenP; simp [hsp, h2]
          have hpos := lenP_pos s i hlt
          have hk : kindP (pieceAt s i).data.toList = 7 := by
            rw [pieceAt_list]
            obtain ⟨q, hq⟩ : ∃ q, lenP (s.data.toList.drop i) = q + 1 := ⟨lenP (s.data.toList.drop i) - 1, by omega⟩
            rw [hq, drop_at s i hlt, List.take_succ_cons]
            unfold kindP
            simp [h2]
          cases n with
          | zero => omega
          | succ n =>
            rw [G_gap s hs i st hlt hk, G_skip s hs n (i + lenP (s.data.toList.drop i)) st (by omega) (by omega), ← skip_cm s i hlt h2]
            congr 1
            have h5 := skipB_cm (s.data.toList.drop i)
            rw [List.drop_drop] at h5
            unfold commentTo skipTo
            rw [hl]; omega
        · rw [skip_no s i hlt (by omega) (by omega) h2]
    · rw [skip_end s i (by omega)]

theorem byteD_at (s : ByteArray) (j : Nat) (hj : j < s.size) : s.data.toList.getD j 0 = s[j] := by
  rw [List.getD_eq_getElem?_getD, List.getElem?_eq_getElem (by simpa using hj)]; rfl

/-- What a datum, or a list's rest, adds to what is open. -/
def thenG (s : ByteArray) (hs : s.size ≤ 1000) (forms : List D) (os : List (Bool × List D)) : Res (D × Nat) → Res (List D)
  | .inl e => .inl e
  | .inr (d, k) => G s hs k (addS forms os d)

theorem G_tok (s : ByteArray) (hs : s.size ≤ 1000) (n j : Nat) (forms : List D) (os : List (Bool × List D)) (hj : j < s.size) (hg : skipTo s.data.toList j = j) (h40 : ¬ s[j].toNat = 40) (h41 : ¬ s[j].toNat = 41) (h39 : ¬ s[j].toNat = 39) :
    G s hs j (forms, os) = thenG s hs forms os (rd (n + 1) s.data.toList os.length j none) := by
  obtain ⟨g1, g2, g3⟩ := not_gap s j hj hg
  simp only [rd]
  rw [byteD_at s j hj, if_neg h41, if_neg h40, if_neg h39]
  by_cases hz : sortU s[j] = 0
  · obtain ⟨hl, hp⟩ := one_piece s j hj hz g3
    have hk : kindP [s[j]] = 0 := by rw [kindP_one, if_neg h40, if_neg h41, if_neg h39, if_neg (by omega), if_pos hz]
    have he : tokEnd s.data.toList j = j := by unfold tokEnd; rw [drop_at s j hj]; simp only [tokN]; rw [if_pos hz]; rfl
    rw [if_pos he, G_take s hs j _ hj (by rw [hp, hk]; decide), hp]
    have ht : takeS forms os [s[j]] = .inl 2 := by
      unfold takeS; rw [hk, if_neg (by decide), if_neg (by decide), if_neg (by decide)]
      cases tokD [s[j]] <;> rfl
    simp only [ht, thenG]
  · have hl : lenP (s.data.toList.drop j) = tokN (s.data.toList.drop j) := by
      rw [drop_at s j hj]; unfold lenP; rw [if_pos (by simpa using hz)]
    have hpos := lenP_pos s j hj
    have he : tokEnd s.data.toList j = j + lenP (s.data.toList.drop j) := by rw [hl]; rfl
    rw [if_neg (by omega), he]
    have hp := pieceAt_list s j
    have hsub : j + lenP (s.data.toList.drop j) - j = lenP (s.data.toList.drop j) := by omega
    rw [hsub, ← hp]
    have hh : (pieceAt s j).data.toList.headD 0 = s[j] := by
      rw [hp]
      obtain ⟨q, hq⟩ : ∃ q, lenP (s.data.toList.drop j) = q + 1 := ⟨lenP (s.data.toList.drop j) - 1, by omega⟩
      rw [hq, drop_at s j hj, List.take_succ_cons]; rfl
    have hk : kindP (pieceAt s j).data.toList = tokK (pieceAt s j).data.toList := by
      unfold kindP; rw [hh, if_neg h40, if_neg h41, if_neg h39, if_neg (by omega), if_neg hz]
    generalize hlp : lenP (s.data.toList.drop j) = L at *
    rcases tokK_cases (pieceAt s j).data.toList with ⟨h1, h2⟩ | ⟨h1, b, h2, h3⟩ | ⟨h1, h2, h3, h4⟩ | ⟨h1, h2⟩
    · rw [G_take s hs j _ hj (by rw [hk, h1]; decide)]
      have ht : takeS forms os (pieceAt s j).data.toList = .inl 2 := by
        unfold takeS; rw [hk, h1, if_neg (by decide), if_neg (by decide), if_neg (by decide), h2]
      simp only [ht, h2, thenG]
    · rw [G_take s hs j _ hj (by rw [hk, h1]; decide), hlp]
      have ht : takeS forms os (pieceAt s j).data.toList = .inr (addS forms os (boo b)) := by
        unfold takeS; rw [hk, h1, if_neg (by decide), if_neg (by decide), if_neg (by decide), h3]; rfl
      simp only [ht, h3, thenG]
    · rw [G_take s hs j _ hj (by rw [hk, h1]; decide), hlp]
      have ht : takeS forms os (pieceAt s j).data.toList = .inr (addS forms os (num (if minus (pieceAt s j).data.toList then -(val (body (pieceAt s j).data.toList)) else val (body (pieceAt s j).data.toList)))) := by
        unfold takeS; rw [hk, h1, if_neg (by decide), if_neg (by decide), if_neg (by decide), h4]; rfl
      simp only [ht, h4, thenG]
    · rw [G_take s hs j _ hj (by rw [hk, h1]; decide), hlp]
      have ht : takeS forms os (pieceAt s j).data.toList = .inr (addS forms os (sym (pieceAt s j).data.toList)) := by
        unfold takeS; rw [hk, h1, if_neg (by decide), if_neg (by decide), if_neg (by decide), h2]; rfl
      simp only [ht, h2, thenG]

/-- A bracket or a quote sign. -/
theorem G_one (s : ByteArray) (hs : s.size ≤ 1000) (j : Nat) (st : List D × List (Bool × List D)) (hj : j < s.size) (h : s[j].toNat = 40 ∨ s[j].toNat = 41 ∨ s[j].toNat = 39) :
    G s hs j st = match takeS st.1 st.2 [s[j]] with | .inl e => .inl (e, j) | .inr st' => G s hs (j + 1) st' := by
  obtain ⟨hl, hp⟩ := one_piece s j hj (sortU_special s[j] (by omega)) (by omega)
  rw [G_take s hs j st hj ?_, hl, hp]
  rw [hp, kindP_one]
  rcases h with h | h | h
  · rw [if_pos h]; decide
  · rw [if_neg (by omega), if_pos h]; decide
  · rw [if_neg (by omega), if_neg (by omega), if_pos h]; decide

mutual
theorem G_datum (s : ByteArray) (hs : s.size ≤ 1000) : ∀ (n j : Nat) (forms : List D) (os : List (Bool × List D)), j < s.size → skipTo s.data.toList j = j → os.length ≤ 20 → ((hj : j < s.size) → s[j].toNat = 41 → os.head?.map (·.1) ≠ some false) → 2 * (s.size - j) ≤ n →
    G s hs j (forms, os) = thenG s hs forms os (rd n s.data.toList os.length j none)
  | 0, j, forms, os, hj, _, _, _, hn => by omega
  | n + 1, j, forms, os, hj, hg, ho, hq, hn => by
    by_cases h41 : s[j].toNat = 41
    · rw [G_one s hs j _ hj (by omega)]
      have hk : kindP [s[j]] = 2 := by rw [kindP_one, if_neg (by omega), if_pos h41]
      have ht : takeS forms os [s[j]] = .inl 2 := by
        unfold takeS; rw [hk, if_neg (by decide), if_neg (by decide), if_pos rfl]
        have := hq hj h41
        match os, this with
        | [], _ => rfl
        | (true, _) :: _, _ => rfl
        | (false, _) :: _, h => exact absurd rfl h
      simp only [rd, ht]
      rw [byteD_at s j hj, if_pos h41]; rfl
    by_cases h40 : s[j].toNat = 40
    · rw [G_one s hs j _ hj (by omega)]
      have hk : kindP [s[j]] = 1 := by rw [kindP_one, if_pos h40]
      simp only [rd]
      rw [byteD_at s j hj, if_neg h41, if_pos h40]
      by_cases h20 : 20 ≤ os.length
      · have ht : takeS forms os [s[j]] = .inl 3 := by unfold takeS; rw [hk, if_pos rfl, if_pos h20]
        simp only [ht]; rw [if_pos h20]; rfl
      · have ht : takeS forms os [s[j]] = .inr (forms, (false, []) :: os) := by unfold takeS; rw [hk, if_pos rfl, if_neg h20]
        simp only [ht]; rw [if_neg h20]
        exact G_list s hs n (j + 1) forms os [] (by omega) (by omega) (by omega)
    by_cases h39 : s[j].toNat = 39
    · rw [G_one s hs j _ hj (by omega)]
      have hk : kindP [s[j]] = 3 := by rw [kindP_one, if_neg h40, if_neg h41, if_pos h39]
      simp only [rd]
      rw [byteD_at s j hj, if_neg h41, if_neg h40, if_pos h39]
      by_cases h20 : 20 ≤ os.length
      · have ht : takeS forms os [s[j]] = .inl 3 := by unfold takeS; rw [hk, if_neg (by decide), if_pos rfl, if_pos h20]
        simp only [ht]; rw [if_pos h20]; rfl
      · have ht : takeS forms os [s[j]] = .inr (forms, (true, []) :: os) := by unfold takeS; rw [hk, if_neg (by decide), if_pos rfl, if_neg h20]
        simp only [ht]; rw [if_neg h20, G_skip s hs (s.size - (j + 1)) (j + 1) _ (by omega) (by omega)]
        have hle := skipTo_le s.data.toList (j + 1) (by rw [len_eq]; omega)
        have hge := le_skipTo s.data.toList (j + 1)
        have hid := skipTo_idem s.data.toList (j + 1)
        rw [len_eq] at *
        generalize skipTo s.data.toList (j + 1) = k at *
        by_cases hke : k = s.size
        · rw [if_pos hke, G_end s hs k _ (by omega)]; rfl
        · rw [if_neg hke, G_datum s hs n k forms ((true, []) :: os) (by omega) hid (by simp; omega) (by simp) (by omega)]
          simp only [List.length_cons]
          cases rd n s.data.toList (os.length + 1) k none <;> rfl
    exact G_tok s hs n j forms os hj hg h40 h41 h39
theorem G_list (s : ByteArray) (hs : s.size ≤ 1000) : ∀ (n i : Nat) (forms : List D) (os : List (Bool × List D)) (acc : List D), i ≤ s.size → os.length < 20 → 2 * (s.size - i) + 1 ≤ n →
    G s hs i (forms, (false, acc) :: os) = thenG s hs forms os (rd n s.data.toList (os.length + 1) i (some acc))
  | 0, i, forms, os, acc, hi, ho, hn => by omega
  | n + 1, i, forms, os, acc, hi, ho, hn => by
    rw [G_skip s hs (s.size - i) i _ (by omega) hi]
    simp only [rd]
    have hle := skipTo_le s.data.toList i (by rw [len_eq]; omega)
    have hge := le_skipTo s.data.toList i
    have hid := skipTo_idem s.data.toList i
    rw [len_eq] at *
    generalize skipTo s.data.toList i = k at *
    by_cases hke : k = s.size
    · rw [if_pos hke, G_end s hs k _ (by omega)]; rfl
    · have hk : k < s.size := by omega
      rw [if_neg hke, byteD_at s k hk]
      by_cases h41 : s[k].toNat = 41
      · rw [if_pos h41, G_one s hs k _ hk (by omega)]
        have hkk : kindP [s[k]] = 2 := by rw [kindP_one, if_neg (by omega), if_pos h41]
        have ht : takeS forms ((false, acc) :: os) [s[k]] = .inr (addS forms os (lst acc)) := by
          unfold takeS; rw [hkk, if_neg (by decide), if_neg (by decide), if_pos rfl]; rfl
        simp only [ht]; rfl
      · rw [if_neg h41, G_datum s hs n k forms ((false, acc) :: os) hk hid (by simp; omega) (fun _ h => absurd h h41) (by omega)]
        simp only [List.length_cons]
        cases hr : rd n s.data.toList (os.length + 1) k none with
        | inl e => rfl
        | inr p =>
          obtain ⟨d, k'⟩ := p
          have hadv := rd_adv s.data.toList n (os.length + 1) k none d k' (by rw [len_eq]; omega) (fun _ => by rw [len_eq]; omega) hr
          rw [len_eq] at hadv
          exact G_list s hs n k' forms os (acc ++ [d]) (by omega) ho (by omega)
end

theorem G_top (s : ByteArray) (hs : s.size ≤ 1000) : ∀ (n i : Nat) (acc : List D), i ≤ s.size → s.size - i < n → G s hs i (acc, []) = readS n s.data.toList i acc
  | 0, i, acc, hi, hn => by omega
  | n + 1, i, acc, hi, hn => by
    rw [G_skip s hs (s.size - i) i _ (by omega) hi]
    simp only [readS]
    have hle := skipTo_le s.data.toList i (by rw [len_eq]; omega)
    have hge := le_skipTo s.data.toList i
    have hid := skipTo_idem s.data.toList i
    rw [len_eq] at *
    generalize skipTo s.data.toList i = k at *
    by_cases hke : k = s.size
    · rw [if_pos hke, G_end s hs k _ (by omega)]; rfl
    · rw [if_neg hke, G_datum s hs (2 * s.size + 2) k acc [] (by omega) hid (by simp) (by simp) (by omega)]
      simp only [List.length_nil]
      cases hr : rd (2 * s.size + 2) s.data.toList 0 k none with
      | inl e => rfl
      | inr p =>
        obtain ⟨d, k'⟩ := p
        have hadv := rd_adv s.data.toList _ 0 k none d k' (by rw [len_eq]; omega) (fun _ => by rw [len_eq]; omega) hr
        rw [len_eq] at hadv
        exact G_top s hs n k' (acc ++ [d]) (by omega) (by omega)

/-- The two ways of reading come to one. -/
theorem dataS_readS (s : ByteArray) (hs : s.size ≤ 1000) : dataS s = readS (s.size + 1) s.data.toList 0 [] := by
  rw [dataS_GS s hs]
  exact G_top s hs (s.size + 1) 0 [] (by omega) (by omega)
end Go.Proofs.YtlobegpjenabaaaGreatDoor

/- value.Items: what is in a list of the program. -/
namespace Go.Proofs.YtlobegpjenabaaaGreatDoor
open Go.RowKit
set_option linter.unusedSimpArgs false
set_option linter.unusedVariables false

theorem as_pair (p : Option Addr) (w : World) : (Instr.typeAssert (.iface 136 (.pointer p)) 81 136 true).run Tryz.prog w = .ok (.tuple #[.pointer p, .bool true]) w := by kernel_rfl
theorem as_pair_Int (v : Value) (w : World) : (Instr.typeAssert (.iface 130 v) 81 136 true).run Tryz.prog w = .ok (.tuple #[.pointer none, .bool false]) w := by kernel_rfl
theorem as_pair_Bool (v : Value) (w : World) : (Instr.typeAssert (.iface 131 v) 81 136 true).run Tryz.prog w = .ok (.tuple #[.pointer none, .bool false]) w := by kernel_rfl
theorem as_pair_Symbol (v : Value) (w : World) : (Instr.typeAssert (.iface 134 v) 81 136 true).run Tryz.prog w = .ok (.tuple #[.pointer none, .bool false]) w := by kernel_rfl
theorem as_pair_Empty (v : Value) (w : World) : (Instr.typeAssert (.iface 207 v) 81 136 true).run Tryz.prog w = .ok (.tuple #[.pointer none, .bool false]) w := by kernel_rfl
theorem ne_empty_Int (v : Value) (w : World) : (Go.binOp .neq 81 (.iface 130 v) (.iface 207 (.agg #[]))).run Tryz.prog w = .ok (.bool true) w := by kernel_rfl
theorem ne_empty_Bool (v : Value) (w : World) : (Go.binOp .neq 81 (.iface 131 v) (.iface 207 (.agg #[]))).run Tryz.prog w = .ok (.bool true) w := by kernel_rfl
theorem ne_empty_Symbol (v : Value) (w : World) : (Go.binOp .neq 81 (.iface 134 v) (.iface 207 (.agg #[]))).run Tryz.prog w = .ok (.bool true) w := by kernel_rfl
theorem ne_empty_Empty (w : World) : (Go.binOp .neq 81 (.iface 207 (.agg #[])) (.iface 207 (.agg #[]))).run Tryz.prog w = .ok (.bool false) w := by kernel_rfl

theorem lenOf_row {w : World} {base e size n : Nat} {v : Value} {xs : List Value} (h : w.ownsRow base e size v n xs) : lenOf v = n := ownsRow_len h

/-- At a round's head of Items. -/
def IItemsRel (w : World) (n : Nat) (l : List D) (x v : Value) (wr : World) (k : Nat) : Prop :=
  (∃ vs, RowI w.heap.size wr v vs ∧ IVs wr n vs (l.take k)) ∧ ChainI wr (IV wr n) x (l.drop k) ∧ Below w.heap.size w wr

theorem iitems_round {w wr w1 : World} {n : Nat} {l : List D} {v v' x2 : Value} {t : TypeId} {x : Value} {k : Nat} {vs : List Value} (hk : k < l.length)
    (hr : RowI w.heap.size wr v vs) (hrv : IVs wr n vs (l.take k)) (hd : IV wr n (.iface t x) l[k]) (ht : ChainI wr (IV wr n) x2 (l.drop (k + 1))) (hb : Below w.heap.size w wr)
    (hu : Upd (fun k => v.ownBlock = some k) wr w1) (ho : w1.ownsRow w.heap.size 81 1 v' (vs.length + 1) (vs ++ [.iface t x])) : IItemsRel w n l x2 v' w1 (k + 1) := by
  have hkk : Keep 205 wr w1 := Keep.of_upd hu (fun k c hk => by
    rcases hr.2 with ⟨hv, _⟩ | ⟨g', cap, cu, hv, hb, hh, r⟩
    · rw [hv] at hk; cases hk
    · rw [hv] at hk; cases hk; rw [hh]; simp)
  refine ⟨⟨vs ++ [.iface t x], ?_, ?_⟩, ChainI.keep hkk (IV.keep hkk n) _ _ ht, hb.trans (hu.below hb.size ?_)⟩
  · unfold RowI; rw [List.length_append]; exact ho
  · rw [List.take_succ_eq_append_getElem hk]
    exact IVs.append (IVs.keep hkk n _ _ hrv) ⟨IV.keep hkk _ _ _ hd, trivial⟩
  · intro k hk; have := (ownsRow_ge hr hk).1; omega

set_option maxRecDepth 100000 in
set_option maxHeartbeats 1000000 in
theorem iitems_list (n : Nat) (l : List D) (x : Value) (w : World) (hv : IV w (n + 1) x (.agg l)) :
    Calls Tryz.prog 56 #[x] w fun e w' => ∃ v vs, e = .returned (.tuple #[v, .bool true]) ∧ RowI w.heap.size w' v vs ∧ IVs w' n vs l ∧ Below w.heap.size w w' := by
  obtain ⟨hl, hch⟩ : l.length ≤ 1000 ∧ ChainI w (IV w n) x l := hv
  obtain ⟨t0, x0, rfl⟩ := hch.form
  have HV := hide hch
  clear hch
  obtain ⟨i0, hi, hz0, hz1, hz2⟩ := info_parts infoVal
  have HI := hide (And.intro hi (And.intro hz0 (And.intro hz1 hz2)))
  clear hi hz0 hz1 hz2
  go_enter Tryz.func56, Tryz.ntmps56
  go_wp2
  go_loopw [0, 4] (fun x v wr => ∃ k, k ≤ l.length ∧ IItemsRel w n l x v wr k) (fun _ v _ => l.length - lenOf v)
  case atStart => exact ⟨0, Nat.zero_le _, ⟨[], RowI.nil _ _, trivial⟩, HV.out, Below.refl _ _⟩
  case round =>
    obtain ⟨k, hk, ⟨vs, hrow, hvs⟩, hch, hb⟩ := hrel
    rcases Nat.lt_or_eq_of_le hk with hlt | rfl
    · rw [drop_cons l k hlt] at hch
      obtain ⟨b, v1, v2, rfl, hP, hd, hr⟩ := hch
      obtain ⟨t1, x1, rfl⟩ := IV.form _ _ _ hd
      obtain ⟨t2, x2, rfl⟩ := hr.form
      have p0 := cell_of_block hP 0
      have p1 := cell_of_block hP 1
      simp at p0 p1
      have hcl := hvs.length
      have hlen : vs.length ≤ 1000 := by rw [hcl]; simp; omega
      have hbs := hb.size
      have HR := hide hrow
      have HRV := hide hvs
      have HP := hide hP
      have HD := hide hd
      have HT := hide hr
      have HBW := hide hb
      have HCL := hide hcl
      clear hrow hvs hP hd hr hb hcl
      have hta := as_pair
      go_wp2_with (at_builtin; refine wpList_append_lies _ rfl (.tmp 14) (.tmp 19) 76 rfl w.heap.size 81 i0 .nilIface 1 16 Tryz.underlying76 HI.out.1 HI.out.2.1 HI.out.2.2.1 HI.out.2.2.2 rfl (by decide) _ vs.length vs rfl (HR.out.alloc _) ⟨wr.heap.size, 0, none⟩ 1 1 [.iface t1 x1] rfl rfl (cell_one_new _ _ _) (by intro u hu; simp at hu; subst hu; rfl) (by decide) (by unfold maxLen; omega) (by omega) (by simp; omega) (wr.heap.size + 1) (by simp) ?_)
      intro g cap w1 hown1 hgrow hat hlt1
      have hu1 := items_upd hgrow
      have hP1 := hu1.at HP.out (fun h => by
        rcases HR.out.2 with ⟨hv, _⟩ | ⟨g', cap, cu, hv, hb, hh, r⟩
        · rw [hv] at h; cases h
        · rw [hv] at h; cases h; have := HP.out; rw [hh] at this; simp at this)
      have p2 := cell_of_block hP1 0
      have p3 := cell_of_block hP1 1
      simp at p2 p3
      have HU1 := hide hu1
      have HO1 := hide hown1
      clear hu1 hown1 hgrow hP1
      go_wp2
      go_roundw
      case rel => exact ⟨k + 1, by omega, iitems_round hlt HR.out HRV.out HD.out HT.out HBW.out HU1.out HO1.out⟩
      case measure => rw [lenOf_row HR.out, HCL.out]; simp [lenOf, HCL.out]; omega
    · rw [List.drop_length] at hch
      have hch : u0 = _ := hch
      subst hch
      have hta := as_pair_Empty
      have hne := ne_empty_Empty
      have HR := hide hrow
      have HRV := hide hvs
      have HB := hide hb
      clear hrow hvs hb
      go_wp2
      go_ret2
      exact ⟨_, vs, rfl, HR.out, by have := HRV.out; rwa [List.take_length] at this, HB.out⟩

set_option maxHeartbeats 1000000 in
theorem iitems_Int (x : Value) (w : World) :
    Calls Tryz.prog 56 #[.iface 130 x] w fun e w' => e = .returned (.tuple #[.slice none 0 0, .bool false]) ∧ w' = w := by
  have hta := as_pair_Int
  have hne := ne_empty_Int
  go_enter Tryz.func56, Tryz.ntmps56
  go_wp2
  go_loopw [0, 4] (fun u v wr => u = .iface 130 x ∧ v = .slice none 0 0 ∧ wr = w) (fun _ _ _ => 0)
  case atStart => exact ⟨rfl, rfl, rfl⟩
  case round =>
    obtain ⟨rfl, rfl, rfl⟩ := hrel
    go_wp2
    go_ret2
    exact ⟨rfl, rfl⟩
set_option maxHeartbeats 1000000 in
theorem iitems_Bool (x : Value) (w : World) :
    Calls Tryz.prog 56 #[.iface 131 x] w fun e w' => e = .returned (.tuple #[.slice none 0 0, .bool false]) ∧ w' = w := by
  have hta := as_pair_Bool
  have hne := ne_empty_Bool
  go_enter Tryz.func56, Tryz.ntmps56
  go_wp2
  go_loopw [0, 4] (fun u v wr => u = .iface 131 x ∧ v = .slice none 0 0 ∧ wr = w) (fun _ _ _ => 0)
  case atStart => exact ⟨rfl, rfl, rfl⟩
  case round =>
    obtain ⟨rfl, rfl, rfl⟩ := hrel
    go_wp2
    go_ret2
    exact ⟨rfl, rfl⟩
set_option maxHeartbeats 1000000 in
theorem iitems_Symbol (x : Value) (w : World) :
    Calls Tryz.prog 56 #[.iface 134 x] w fun e w' => e = .returned (.tuple #[.slice none 0 0, .bool false]) ∧ w' = w := by
  have hta := as_pair_Symbol
  have hne := ne_empty_Symbol
  go_enter Tryz.func56, Tryz.ntmps56
  go_wp2
  go_loopw [0, 4] (fun u v wr => u = .iface 134 x ∧ v = .slice none 0 0 ∧ wr = w) (fun _ _ _ => 0)
  case atStart => exact ⟨rfl, rfl, rfl⟩
  case round =>
    obtain ⟨rfl, rfl, rfl⟩ := hrel
    go_wp2
    go_ret2
    exact ⟨rfl, rfl⟩

/-- Items, of whatever is read. -/
theorem iitems_any (n : Nat) (d : D) (x : Value) (w : World) (hv : IV w (n + 1) x d) :
    Calls Tryz.prog 56 #[x] w fun e w' => ∃ v vs, e = .returned (.tuple #[v, .bool (isList d)]) ∧ RowI w.heap.size w' v vs ∧ IVs w' n vs (itemsD d) ∧ Below w.heap.size w w' := by
  match d, hv with
  | .agg l, hv => exact iitems_list n l x w hv
  | .lit (.int k m), hv =>
    cases k <;> first | (cases hv; done) | (have h : some _ = some x := hv; cases h; exact (iitems_Int _ w).mono fun e w' ⟨he, hb⟩ => ⟨_, [], he, RowI.nil _ _, trivial, by rw [hb]; exact Below.refl _ _⟩)
  | .lit (.bool b), hv => have h : some _ = some x := hv; cases h; exact (iitems_Bool _ w).mono fun e w' ⟨he, hb⟩ => ⟨_, [], he, RowI.nil _ _, trivial, by rw [hb]; exact Below.refl _ _⟩
  | .lit (.string b), hv => have h : some _ = some x := hv; cases h; exact (iitems_Symbol _ w).mono fun e w' ⟨he, hb⟩ => ⟨_, [], he, RowI.nil _ _, trivial, by rw [hb]; exact Below.refl _ _⟩
  | .lit (.float _ _), hv => cases hv
  | .lit .nil, hv => cases hv
  | .nil, hv => cases hv
  | .ptr _, hv => cases hv
  | .slice _ _, hv => cases hv
  | .iface _ _, hv => cases hv
  | .map _, hv => cases hv
  | .held _, hv => cases hv
end Go.Proofs.YtlobegpjenabaaaGreatDoor

/- expr: isKeyword, variable. -/
namespace Go.Proofs.YtlobegpjenabaaaGreatDoor
open Go.RowKit
set_option linter.unusedSimpArgs false
set_option linter.unusedVariables false

set_option maxHeartbeats 1000000 in
theorem isKeyword_any (s : ByteArray) (w : World) :
    Calls Tryz.prog 143 #[.string s] w fun e w' => e = .returned (.bool (kwB s.data.toList)) ∧ w' = w := by
  have HK := hide (kwB_of s)
  go_enter Tryz.func143, Tryz.ntmps143
  go_wp2
  all_goals
    go_ret
    refine ⟨ret_bool ?_, rfl⟩
    rw [HK.out]
    clear HK
    simp_all

theorem as_sym (s : ByteArray) (w : World) : (Instr.typeAssert (.iface 134 (.string s)) 81 134 true).run Tryz.prog w = .ok (.tuple #[.string s, .bool true]) w := by kernel_rfl
theorem as_sym_Int (v : Value) (w : World) : (Instr.typeAssert (.iface 130 v) 81 134 true).run Tryz.prog w = .ok (.tuple #[.string ⟨#[]⟩, .bool false]) w := by kernel_rfl
set_option maxHeartbeats 1000000 in
theorem ivariable_Int (x : Value) (w : World) :
    Calls Tryz.prog 88 #[.iface 130 x] w fun e w' => e = .returned (.tuple #[.string ⟨#[]⟩, .bool false]) ∧ w' = w := by
  have hta := as_sym_Int
  go_enter Tryz.func88, Tryz.ntmps88
  go_wp2
  go_ret2
  exact ⟨rfl, rfl⟩
theorem as_sym_Bool (v : Value) (w : World) : (Instr.typeAssert (.iface 131 v) 81 134 true).run Tryz.prog w = .ok (.tuple #[.string ⟨#[]⟩, .bool false]) w := by kernel_rfl
set_option maxHeartbeats 1000000 in
theorem ivariable_Bool (x : Value) (w : World) :
    Calls Tryz.prog 88 #[.iface 131 x] w fun e w' => e = .returned (.tuple #[.string ⟨#[]⟩, .bool false]) ∧ w' = w := by
  have hta := as_sym_Bool
  go_enter Tryz.func88, Tryz.ntmps88
  go_wp2
  go_ret2
  exact ⟨rfl, rfl⟩
theorem as_sym_Empty (v : Value) (w : World) : (Instr.typeAssert (.iface 207 v) 81 134 true).run Tryz.prog w = .ok (.tuple #[.string ⟨#[]⟩, .bool false]) w := by kernel_rfl
set_option maxHeartbeats 1000000 in
theorem ivariable_Empty (x : Value) (w : World) :
    Calls Tryz.prog 88 #[.iface 207 x] w fun e w' => e = .returned (.tuple #[.string ⟨#[]⟩, .bool false]) ∧ w' = w := by
  have hta := as_sym_Empty
  go_enter Tryz.func88, Tryz.ntmps88
  go_wp2
  go_ret2
  exact ⟨rfl, rfl⟩
theorem as_sym_Pair (v : Value) (w : World) : (Instr.typeAssert (.iface 136 v) 81 134 true).run Tryz.prog w = .ok (.tuple #[.string ⟨#[]⟩, .bool false]) w := by kernel_rfl
set_option maxHeartbeats 1000000 in
theorem ivariable_Pair (x : Value) (w : World) :
    Calls Tryz.prog 88 #[.iface 136 x] w fun e w' => e = .returned (.tuple #[.string ⟨#[]⟩, .bool false]) ∧ w' = w := by
  have hta := as_sym_Pair
  go_enter Tryz.func88, Tryz.ntmps88
  go_wp2
  go_ret2
  exact ⟨rfl, rfl⟩

set_option maxHeartbeats 1000000 in
theorem ivariable_sym (s : ByteArray) (w : World) :
    Calls Tryz.prog 88 #[.iface 134 (.string s)] w fun e w' => (∃ t, e = .returned (.tuple #[.string t, .bool (!(kwB s.data.toList))]) ∧ (kwB s.data.toList = false → t = s)) ∧ w' = w := by
  have hta := as_sym
  cases hk : kwB s.data.toList with
  | true =>
    go_enter Tryz.func88, Tryz.ntmps88
    go_wp2_with (go_at_call 143; refine (isKeyword_any _ _).mono ?_; rintro e w' ⟨rfl, rfl⟩; rw [hk])
    go_ret2
    exact ⟨⟨_, rfl, fun h => by cases h⟩, rfl⟩
  | false =>
    go_enter Tryz.func88, Tryz.ntmps88
    go_wp2_with (go_at_call 143; refine (isKeyword_any _ _).mono ?_; rintro e w' ⟨rfl, rfl⟩; rw [hk])
    go_ret2
    exact ⟨⟨_, rfl, fun _ => rfl⟩, rfl⟩

/-- variable, of whatever is read. -/
theorem ivariable_any (n : Nat) (d : D) (x : Value) (w : World) (hv : IV w n x d) :
    Calls Tryz.prog 88 #[x] w fun e w' => (∃ t, e = .returned (.tuple #[.string t, .bool (varD d)]) ∧ (varD d = true → t.data.toList = nameD d)) ∧ w' = w := by
  cases n with
  | zero => exact hv.elim
  | succ n =>
    match d, hv with
    | .agg [], hv => have h : x = _ := hv.2; subst h; exact (ivariable_Empty _ w).mono fun e w' ⟨he, hb⟩ => ⟨⟨_, he, fun h => by cases h⟩, hb⟩
    | .agg (_ :: _), hv => obtain ⟨b, v1, v2, rfl, _⟩ := hv.2; exact (ivariable_Pair _ w).mono fun e w' ⟨he, hb⟩ => ⟨⟨_, he, fun h => by cases h⟩, hb⟩
    | .lit (.int k m), hv =>
      cases k <;> first | (cases hv; done) | (have h : some _ = some x := hv; cases h; exact (ivariable_Int _ w).mono fun e w' ⟨he, hb⟩ => ⟨⟨_, he, fun h => by cases h⟩, hb⟩)
    | .lit (.bool b), hv => have h : some _ = some x := hv; cases h; exact (ivariable_Bool _ w).mono fun e w' ⟨he, hb⟩ => ⟨⟨_, he, fun h => by cases h⟩, hb⟩
    | .lit (.string b), hv =>
      have h : some _ = some x := hv; cases h
      refine (ivariable_sym _ w).mono fun e w' ⟨⟨t, he, ht⟩, hb⟩ => ⟨⟨t, he, fun h => ?_⟩, hb⟩
      rw [ht (by simpa [varD] using h)]; rfl
    | .lit (.float _ _), hv => cases hv
    | .lit .nil, hv => cases hv
    | .nil, hv => cases hv
    | .ptr _, hv => cases hv
    | .slice _ _, hv => cases hv
    | .iface _ _, hv => cases hv
    | .map _, hv => cases hv
    | .held _, hv => cases hv
end Go.Proofs.YtlobegpjenabaaaGreatDoor
