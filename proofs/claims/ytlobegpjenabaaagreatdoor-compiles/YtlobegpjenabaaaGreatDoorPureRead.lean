/- The two ways of reading come to one: a stack of what is open, and a descent. -/
import Derived.Test.YtlobegpjenabaaaGreatDoorImpDat
namespace Go.Proofs.YtlobegpjenabaaaGreatDoor
open Go.RowKit
set_option linter.unusedSimpArgs false
set_option linter.unusedVariables false

/-- At the end of a text. -/
def finS (s : ByteArray) : Sum (Int × Nat) (List D × List (Bool × List D)) → Res (List D)
  | .inl e => .inl e
  | .inr st => if st.2.isEmpty then .inr st.1 else .inl (2, s.size)
/-- What comes of the text from place i on. -/
def GS (s : ByteArray) (hs : s.size ≤ 1000) (n i : Nat) (st : List D × List (Bool × List D)) : Res (List D) := finS s (feedP (pcsB s hs n i) st)

theorem dataS_GS (s : ByteArray) (hs : s.size ≤ 1000) : dataS s = GS s hs (s.size + 1) 0 ([], []) := by
  unfold dataS GS; rw [dif_pos hs]
  cases feedP (pcsB s hs (s.size + 1) 0) ([], []) <;> rfl
theorem pcsB_fuel (s : ByteArray) (hs : s.size ≤ 1000) : ∀ (n m i : Nat), s.size - i < n → s.size - i < m → pcsB s hs n i = pcsB s hs m i
  | 0, _, _, h, _ => absurd h (by omega)
  | _, 0, _, _, h => absurd h (by omega)
  | n + 1, m + 1, i, h1, h2 => by
    rw [pcsB, pcsB]
    by_cases hi : i < s.size
    · have hl := lenP_pos s i hi
      rw [if_pos hi, if_pos hi, pcsB_fuel s hs n m (i + lenP (s.data.toList.drop i)) (by omega) (by omega)]
    · rw [if_neg hi, if_neg hi]
/-- From place i on, with fuel enough. -/
def G (s : ByteArray) (hs : s.size ≤ 1000) (i : Nat) (st : List D × List (Bool × List D)) : Res (List D) := GS s hs (s.size - i + 1) i st
theorem G_end (s : ByteArray) (hs : s.size ≤ 1000) (i : Nat) (st : List D × List (Bool × List D)) (hi : ¬ i < s.size) : G s hs i st = finS s (.inr st) := by
  unfold G GS; rw [pcsB, if_neg hi]; rfl
theorem G_gap (s : ByteArray) (hs : s.size ≤ 1000) (i : Nat) (st : List D × List (Bool × List D)) (hi : i < s.size) (hk : kindP (pieceAt s i).data.toList = 7) : G s hs i st = G s hs (i + lenP (s.data.toList.drop i)) st := by
  have hl := lenP_pos s i hi
  unfold G GS
  rw [pcsB, if_pos hi, dif_pos hk, pcsB_fuel s hs (s.size - i) (s.size - (i + lenP (s.data.toList.drop i)) + 1) _ (by omega) (by omega)]
theorem G_take (s : ByteArray) (hs : s.size ≤ 1000) (i : Nat) (st : List D × List (Bool × List D)) (hi : i < s.size) (hk : ¬ kindP (pieceAt s i).data.toList = 7) : G s hs i st = match takeS st.1 st.2 (pieceAt s i).data.toList with | .inl e => .inl (e, i) | .inr st' => G s hs (i + lenP (s.data.toList.drop i)) st' := by
  have hl := lenP_pos s i hi
  unfold G GS
  rw [pcsB, if_pos hi, dif_neg hk, pcsB_fuel s hs (s.size - i) (s.size - (i + lenP (s.data.toList.drop i)) + 1) _ (by omega) (by omega)]
  simp only [feedP]
  cases takeS st.1 st.2 (pieceAt s i).data.toList <;> rfl
theorem pieceAt_list (s : ByteArray) (i : Nat) : (pieceAt s i).data.toList = (s.data.toList.drop i).take (lenP (s.data.toList.drop i)) := by
  unfold pieceAt; rw [Lib.extract_data]; congr 1; omega

/-- A byte that is no token's, nor begins a comment, is a piece, or a gap, by itself. -/
theorem one_piece (s : ByteArray) (i : Nat) (hi : i < s.size) (h0 : sortU s[i] = 0) (h59 : ¬ s[i].toNat = 59) : lenP (s.data.toList.drop i) = 1 ∧ (pieceAt s i).data.toList = [s[i]] := by
  have hl : lenP (s.data.toList.drop i) = 1 := by
    rw [drop_at s i hi]; unfold lenP
    simp [h0, h59]
  refine ⟨hl, ?_⟩
  rw [pieceAt_list, hl, drop_at s i hi]; rfl
theorem kindP_one (c : UInt8) : kindP [c] = if c.toNat = 40 then 1 else if c.toNat = 41 then 2 else if c.toNat = 39 then 3 else if c.toNat = 32 ∨ c.toNat = 10 ∨ c.toNat = 59 then 7 else if sortU c = 0 then 0 else tokK [c] := rfl
theorem sortU_special (c : UInt8) (h : c.toNat = 40 ∨ c.toNat = 41 ∨ c.toNat = 39 ∨ c.toNat = 32 ∨ c.toNat = 10 ∨ c.toNat = 59) : sortU c = 0 := by
  unfold sortU
  rcases h with h | h | h | h | h | h <;> rw [h] <;> rfl

theorem skipB_cm : ∀ l : List UInt8, skipB true l = cmN l + skipB false (l.drop (cmN l))
  | [] => rfl
  | c :: r => by
    have ih := skipB_cm r
    by_cases h : c.toNat = 10
    · simp only [cmN, skipB, h, if_true, List.drop_zero, or_true]; omega
    · simp only [cmN, skipB, h, if_false, List.drop_succ_cons]; omega
theorem skipB_idem : ∀ (l : List UInt8) (b : Bool), skipB false (l.drop (skipB b l)) = 0
  | [], b => by simp [skipB]
  | c :: r, false => by
    have h1 := skipB_idem r false; have h2 := skipB_idem r true
    by_cases a : c.toNat = 32 ∨ c.toNat = 10
    · simp only [skipB]; rw [if_pos a, List.drop_succ_cons]; exact h1
    · by_cases b : c.toNat = 59
      · simp only [skipB]; rw [if_neg a, if_pos b, List.drop_succ_cons]; exact h2
      · simp only [skipB]; rw [if_neg a, if_neg b, List.drop_zero]; simp only [skipB]; rw [if_neg a, if_neg b]
  | c :: r, true => by
    have h1 := skipB_idem r false; have h2 := skipB_idem r true
    by_cases a : c.toNat = 10
    · simp only [skipB]; rw [if_pos a, List.drop_succ_cons]; exact h1
    · simp only [skipB]; rw [if_neg a, List.drop_succ_cons]; exact h2
theorem skipTo_idem (l : List UInt8) (i : Nat) : skipTo l (skipTo l i) = skipTo l i := by
  have h := skipB_idem (l.drop i) false
  rw [List.drop_drop] at h
  show skipTo l i + skipB false (l.drop (skipTo l i)) = skipTo l i
  unfold skipTo at *
  omega
theorem not_gap (s : ByteArray) (j : Nat) (hj : j < s.size) (h : skipTo s.data.toList j = j) : ¬ s[j].toNat = 32 ∧ ¬ s[j].toNat = 10 ∧ ¬ s[j].toNat = 59 := by
  refine ⟨fun e => ?_, fun e => ?_, fun e => ?_⟩
  · have := skip_gap s j hj (Or.inl e); have := le_skipTo s.data.toList (j + 1); omega
  · have := skip_gap s j hj (Or.inr e); have := le_skipTo s.data.toList (j + 1); omega
  · have h1 := skip_cm s j hj e
    have h2 := cm_go s j hj (by omega)
    have h3 : j + 1 ≤ commentTo s.data.toList (j + 1) := by unfold commentTo; omega
    omega

/-- Behind a gap. -/
theorem G_skip (s : ByteArray) (hs : s.size ≤ 1000) : ∀ (n i : Nat) (st : List D × List (Bool × List D)), s.size - i ≤ n → i ≤ s.size → G s hs i st = G s hs (skipTo s.data.toList i) st
  | n, i, st, hn, hi => by
    by_cases hlt : i < s.size
    · by_cases h1 : s[i].toNat = 32 ∨ s[i].toNat = 10
      · have hsp := sortU_special s[i] (by omega)
        obtain ⟨hl, hp⟩ := one_piece s i hlt hsp (by omega)
        cases n with
        | zero => omega
        | succ n =>
          rw [G_gap s hs i st hlt (by rw [hp, kindP_one, if_neg (by omega), if_neg (by omega), if_neg (by omega), if_pos (by omega)]), hl, G_skip s hs n (i + 1) st (by omega) (by omega), skip_gap s i hlt h1]
      · by_cases h2 : s[i].toNat = 59
        · have hsp := sortU_special s[i] (by omega)
          have hl : lenP (s.data.toList.drop i) = cmN (s.data.toList.drop i) := by rw [drop_at s i hlt]; unfold lenP; simp [hsp, h2]
          have hpos := lenP_pos s i hlt
          have hk : kindP (pieceAt s i).data.toList = 7 := by
            rw [pieceAt_list]
            obtain ⟨q, hq⟩ : ∃ q, lenP (s.data.toList.drop i) = q + 1 := ⟨lenP (s.data.toList.drop i) - 1, by omega⟩
            rw [hq, drop_at s i hlt, List.take_succ_cons]
            unfold kindP
            simp [h2]
          cases n with
          | zero => omega
          | succ n =>
            rw [G_gap s hs i st hlt hk, G_skip s hs n (i + lenP (s.data.toList.drop i)) st (by omega) (by omega), ← skip_cm s i hlt h2]
            congr 1
            have h5 := skipB_cm (s.data.toList.drop i)
            rw [List.drop_drop] at h5
            unfold commentTo skipTo
            rw [hl]; omega
        · rw [skip_no s i hlt (by omega) (by omega) h2]
    · rw [skip_end s i (by omega)]

theorem byteD_at (s : ByteArray) (j : Nat) (hj : j < s.size) : s.data.toList.getD j 0 = s[j] := by
  rw [List.getD_eq_getElem?_getD, List.getElem?_eq_getElem (by simpa using hj)]; rfl

/-- What a datum, or a list's rest, adds to what is open. -/
def thenG (s : ByteArray) (hs : s.size ≤ 1000) (forms : List D) (os : List (Bool × List D)) : Res (D × Nat) → Res (List D)
  | .inl e => .inl e
  | .inr (d, k) => G s hs k (addS forms os d)

theorem G_tok (s : ByteArray) (hs : s.size ≤ 1000) (n j : Nat) (forms : List D) (os : List (Bool × List D)) (hj : j < s.size) (hg : skipTo s.data.toList j = j) (h40 : ¬ s[j].toNat = 40) (h41 : ¬ s[j].toNat = 41) (h39 : ¬ s[j].toNat = 39) :
    G s hs j (forms, os) = thenG s hs forms os (rd (n + 1) s.data.toList os.length j none) := by
  obtain ⟨g1, g2, g3⟩ := not_gap s j hj hg
  simp only [rd]
  rw [byteD_at s j hj, if_neg h41, if_neg h40, if_neg h39]
  by_cases hz : sortU s[j] = 0
  · obtain ⟨hl, hp⟩ := one_piece s j hj hz g3
    have hk : kindP [s[j]] = 0 := by rw [kindP_one, if_neg h40, if_neg h41, if_neg h39, if_neg (by omega), if_pos hz]
    have he : tokEnd s.data.toList j = j := by unfold tokEnd; rw [drop_at s j hj]; simp only [tokN]; rw [if_pos hz]; rfl
    rw [if_pos he, G_take s hs j _ hj (by rw [hp, hk]; decide), hp]
    have ht : takeS forms os [s[j]] = .inl 2 := by
      unfold takeS; rw [hk, if_neg (by decide), if_neg (by decide), if_neg (by decide)]
      cases tokD [s[j]] <;> rfl
    simp only [ht, thenG]
  · have hl : lenP (s.data.toList.drop j) = tokN (s.data.toList.drop j) := by
      rw [drop_at s j hj]; unfold lenP; rw [if_pos (by simpa using hz)]
    have hpos := lenP_pos s j hj
    have he : tokEnd s.data.toList j = j + lenP (s.data.toList.drop j) := by rw [hl]; rfl
    rw [if_neg (by omega), he]
    have hp := pieceAt_list s j
    have hsub : j + lenP (s.data.toList.drop j) - j = lenP (s.data.toList.drop j) := by omega
    rw [hsub, ← hp]
    have hh : (pieceAt s j).data.toList.headD 0 = s[j] := by
      rw [hp]
      obtain ⟨q, hq⟩ : ∃ q, lenP (s.data.toList.drop j) = q + 1 := ⟨lenP (s.data.toList.drop j) - 1, by omega⟩
      rw [hq, drop_at s j hj, List.take_succ_cons]; rfl
    have hk : kindP (pieceAt s j).data.toList = tokK (pieceAt s j).data.toList := by
      unfold kindP; rw [hh, if_neg h40, if_neg h41, if_neg h39, if_neg (by omega), if_neg hz]
    generalize hlp : lenP (s.data.toList.drop j) = L at *
    rcases tokK_cases (pieceAt s j).data.toList with ⟨h1, h2⟩ | ⟨h1, b, h2, h3⟩ | ⟨h1, h2, h3, h4⟩ | ⟨h1, h2⟩
    · rw [G_take s hs j _ hj (by rw [hk, h1]; decide)]
      have ht : takeS forms os (pieceAt s j).data.toList = .inl 2 := by
        unfold takeS; rw [hk, h1, if_neg (by decide), if_neg (by decide), if_neg (by decide), h2]
      simp only [ht, h2, thenG]
    · rw [G_take s hs j _ hj (by rw [hk, h1]; decide), hlp]
      have ht : takeS forms os (pieceAt s j).data.toList = .inr (addS forms os (boo b)) := by
        unfold takeS; rw [hk, h1, if_neg (by decide), if_neg (by decide), if_neg (by decide), h3]; rfl
      simp only [ht, h3, thenG]
    · rw [G_take s hs j _ hj (by rw [hk, h1]; decide), hlp]
      have ht : takeS forms os (pieceAt s j).data.toList = .inr (addS forms os (num (if minus (pieceAt s j).data.toList then -(val (body (pieceAt s j).data.toList)) else val (body (pieceAt s j).data.toList)))) := by
        unfold takeS; rw [hk, h1, if_neg (by decide), if_neg (by decide), if_neg (by decide), h4]; rfl
      simp only [ht, h4, thenG]
    · rw [G_take s hs j _ hj (by rw [hk, h1]; decide), hlp]
      have ht : takeS forms os (pieceAt s j).data.toList = .inr (addS forms os (sym (pieceAt s j).data.toList)) := by
        unfold takeS; rw [hk, h1, if_neg (by decide), if_neg (by decide), if_neg (by decide), h2]; rfl
      simp only [ht, h2, thenG]

/-- A bracket or a quote sign. -/
theorem G_one (s : ByteArray) (hs : s.size ≤ 1000) (j : Nat) (st : List D × List (Bool × List D)) (hj : j < s.size) (h : s[j].toNat = 40 ∨ s[j].toNat = 41 ∨ s[j].toNat = 39) :
    G s hs j st = match takeS st.1 st.2 [s[j]] with | .inl e => .inl (e, j) | .inr st' => G s hs (j + 1) st' := by
  obtain ⟨hl, hp⟩ := one_piece s j hj (sortU_special s[j] (by omega)) (by omega)
  rw [G_take s hs j st hj ?_, hl, hp]
  rw [hp, kindP_one]
  rcases h with h | h | h
  · rw [if_pos h]; decide
  · rw [if_neg (by omega), if_pos h]; decide
  · rw [if_neg (by omega), if_neg (by omega), if_pos h]; decide

mutual
theorem G_datum (s : ByteArray) (hs : s.size ≤ 1000) : ∀ (n j : Nat) (forms : List D) (os : List (Bool × List D)), j < s.size → skipTo s.data.toList j = j → os.length ≤ 20 → ((hj : j < s.size) → s[j].toNat = 41 → os.head?.map (·.1) ≠ some false) → 2 * (s.size - j) ≤ n →
    G s hs j (forms, os) = thenG s hs forms os (rd n s.data.toList os.length j none)
  | 0, j, forms, os, hj, _, _, _, hn => by omega
  | n + 1, j, forms, os, hj, hg, ho, hq, hn => by
    by_cases h41 : s[j].toNat = 41
    · rw [G_one s hs j _ hj (by omega)]
      have hk : kindP [s[j]] = 2 := by rw [kindP_one, if_neg (by omega), if_pos h41]
      have ht : takeS forms os [s[j]] = .inl 2 := by
        unfold takeS; rw [hk, if_neg (by decide), if_neg (by decide), if_pos rfl]
        have := hq hj h41
        match os, this with
        | [], _ => rfl
        | (true, _) :: _, _ => rfl
        | (false, _) :: _, h => exact absurd rfl h
      simp only [rd, ht]
      rw [byteD_at s j hj, if_pos h41]; rfl
    by_cases h40 : s[j].toNat = 40
    · rw [G_one s hs j _ hj (by omega)]
      have hk : kindP [s[j]] = 1 := by rw [kindP_one, if_pos h40]
      simp only [rd]
      rw [byteD_at s j hj, if_neg h41, if_pos h40]
      by_cases h20 : 20 ≤ os.length
      · have ht : takeS forms os [s[j]] = .inl 3 := by unfold takeS; rw [hk, if_pos rfl, if_pos h20]
        simp only [ht]; rw [if_pos h20]; rfl
      · have ht : takeS forms os [s[j]] = .inr (forms, (false, []) :: os) := by unfold takeS; rw [hk, if_pos rfl, if_neg h20]
        simp only [ht]; rw [if_neg h20]
        exact G_list s hs n (j + 1) forms os [] (by omega) (by omega) (by omega)
    by_cases h39 : s[j].toNat = 39
    · rw [G_one s hs j _ hj (by omega)]
      have hk : kindP [s[j]] = 3 := by rw [kindP_one, if_neg h40, if_neg h41, if_pos h39]
      simp only [rd]
      rw [byteD_at s j hj, if_neg h41, if_neg h40, if_pos h39]
      by_cases h20 : 20 ≤ os.length
      · have ht : takeS forms os [s[j]] = .inl 3 := by unfold takeS; rw [hk, if_neg (by decide), if_pos rfl, if_pos h20]
        simp only [ht]; rw [if_pos h20]; rfl
      · have ht : takeS forms os [s[j]] = .inr (forms, (true, []) :: os) := by unfold takeS; rw [hk, if_neg (by decide), if_pos rfl, if_neg h20]
        simp only [ht]; rw [if_neg h20, G_skip s hs (s.size - (j + 1)) (j + 1) _ (by omega) (by omega)]
        have hle := skipTo_le s.data.toList (j + 1) (by rw [len_eq]; omega)
        have hge := le_skipTo s.data.toList (j + 1)
        have hid := skipTo_idem s.data.toList (j + 1)
        rw [len_eq] at *
        generalize skipTo s.data.toList (j + 1) = k at *
        by_cases hke : k = s.size
        · rw [if_pos hke, G_end s hs k _ (by omega)]; rfl
        · rw [if_neg hke, G_datum s hs n k forms ((true, []) :: os) (by omega) hid (by simp; omega) (by simp) (by omega)]
          simp only [List.length_cons]
          cases rd n s.data.toList (os.length + 1) k none <;> rfl
    exact G_tok s hs n j forms os hj hg h40 h41 h39
theorem G_list (s : ByteArray) (hs : s.size ≤ 1000) : ∀ (n i : Nat) (forms : List D) (os : List (Bool × List D)) (acc : List D), i ≤ s.size → os.length < 20 → 2 * (s.size - i) + 1 ≤ n →
    G s hs i (forms, (false, acc) :: os) = thenG s hs forms os (rd n s.data.toList (os.length + 1) i (some acc))
  | 0, i, forms, os, acc, hi, ho, hn => by omega
  | n + 1, i, forms, os, acc, hi, ho, hn => by
    rw [G_skip s hs (s.size - i) i _ (by omega) hi]
    simp only [rd]
    have hle := skipTo_le s.data.toList i (by rw [len_eq]; omega)
    have hge := le_skipTo s.data.toList i
    have hid := skipTo_idem s.data.toList i
    rw [len_eq] at *
    generalize skipTo s.data.toList i = k at *
    by_cases hke : k = s.size
    · rw [if_pos hke, G_end s hs k _ (by omega)]; rfl
    · have hk : k < s.size := by omega
      rw [if_neg hke, byteD_at s k hk]
      by_cases h41 : s[k].toNat = 41
      · rw [if_pos h41, G_one s hs k _ hk (by omega)]
        have hkk : kindP [s[k]] = 2 := by rw [kindP_one, if_neg (by omega), if_pos h41]
        have ht : takeS forms ((false, acc) :: os) [s[k]] = .inr (addS forms os (lst acc)) := by
          unfold takeS; rw [hkk, if_neg (by decide), if_neg (by decide), if_pos rfl]; rfl
        simp only [ht]; rfl
      · rw [if_neg h41, G_datum s hs n k forms ((false, acc) :: os) hk hid (by simp; omega) (fun _ h => absurd h h41) (by omega)]
        simp only [List.length_cons]
        cases hr : rd n s.data.toList (os.length + 1) k none with
        | inl e => rfl
        | inr p =>
          obtain ⟨d, k'⟩ := p
          have hadv := rd_adv s.data.toList n (os.length + 1) k none d k' (by rw [len_eq]; omega) (fun _ => by rw [len_eq]; omega) hr
          rw [len_eq] at hadv
          exact G_list s hs n k' forms os (acc ++ [d]) (by omega) ho (by omega)
end

theorem G_top (s : ByteArray) (hs : s.size ≤ 1000) : ∀ (n i : Nat) (acc : List D), i ≤ s.size → s.size - i < n → G s hs i (acc, []) = readS n s.data.toList i acc
  | 0, i, acc, hi, hn => by omega
  | n + 1, i, acc, hi, hn => by
    rw [G_skip s hs (s.size - i) i _ (by omega) hi]
    simp only [readS]
    have hle := skipTo_le s.data.toList i (by rw [len_eq]; omega)
    have hge := le_skipTo s.data.toList i
    have hid := skipTo_idem s.data.toList i
    rw [len_eq] at *
    generalize skipTo s.data.toList i = k at *
    by_cases hke : k = s.size
    · rw [if_pos hke, G_end s hs k _ (by omega)]; rfl
    · rw [if_neg hke, G_datum s hs (2 * s.size + 2) k acc [] (by omega) hid (by simp) (by simp) (by omega)]
      simp only [List.length_nil]
      cases hr : rd (2 * s.size + 2) s.data.toList 0 k none with
      | inl e => rfl
      | inr p =>
        obtain ⟨d, k'⟩ := p
        have hadv := rd_adv s.data.toList _ 0 k none d k' (by rw [len_eq]; omega) (fun _ => by rw [len_eq]; omega) hr
        rw [len_eq] at hadv
        exact G_top s hs n k' (acc ++ [d]) (by omega) (by omega)

/-- The two ways of reading come to one. -/
theorem dataS_readS (s : ByteArray) (hs : s.size ≤ 1000) : dataS s = readS (s.size + 1) s.data.toList 0 [] := by
  rw [dataS_GS s hs]
  exact G_top s hs (s.size + 1) 0 [] (by omega) (by omega)
end Go.Proofs.YtlobegpjenabaaaGreatDoor
