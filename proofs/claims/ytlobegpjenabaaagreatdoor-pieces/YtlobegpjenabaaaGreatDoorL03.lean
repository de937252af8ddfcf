/- read: the kind of a piece. -/
import Derived.Test.YtlobegpjenabaaaGreatDoorL02
namespace Go.Proofs.YtlobegpjenabaaaGreatDoor
open Go.RowKit
set_option linter.unusedSimpArgs false
set_option linter.unusedVariables false

theorem sortU_hash (c : UInt8) : (sortU c == 3) = (c == 35) := by
  rw [Bool.eq_iff_iff, beq_iff_eq, beq_iff_eq]
  constructor
  · intro h
    have : (c.toNat : Int) = 35 := by
      unfold sortU sortI at h
      split at h
      · omega
      · split at h
        · omega
        · split at h
          · rename_i h3; simpa using h3
          · split at h <;> omega
    exact UInt8.toNat.inj (by simpa using (show c.toNat = 35 from by omega))
  · intro h; subst h; rfl
theorem idx_hash : ∀ (l : List UInt8), 0 ≤ Lib.index l [35] ↔ 35 ∈ l
  | [] => by simp [Lib.index]
  | c :: r => by
    have ih := idx_hash r
    have hg := Lib.index_ge r [35]
    simp only [Lib.index]
    split
    · rename_i h
      have : c = 35 := by simp [List.isPrefixOf] at h; exact h.symm
      subst this; simp
    · rename_i h
      have hc : ¬ 35 = c := by simpa [List.isPrefixOf] using h
      simp only [List.mem_cons, hc, false_or]
      rw [← ih]
      split
      · rename_i h2; simp at h2; omega
      · rename_i h2; simp at h2; omega
theorem contains_hash (l : List UInt8) : Lib.contains l [35] = hashed l := by
  unfold Lib.contains hashed
  rw [Bool.eq_iff_iff, decide_eq_true_eq, idx_hash, List.any_eq_true]
  constructor
  · intro h; exact ⟨35, h, rfl⟩
  · rintro ⟨x, hx, h⟩; rw [sortU_hash, beq_iff_eq] at h; rw [← h]; exact hx

/-- The kind of a token: 0 wrong, 4 an int, 5 a bool, 6 a symbol. -/
def tokK (t : List UInt8) : Int := if t = [35, 116] ∨ t = [35, 102] then 5 else if digits (body t) then (if 18 < (body t).length then 0 else 4) else if first1 t || hashed t then 0 else 6
/-- The kind of a piece: 1 and 2 the brackets, 3 the quote sign, 7 a gap. -/
def kindP (t : List UInt8) : Int :=
  if (t.headD 0).toNat = 40 then 1 else if (t.headD 0).toNat = 41 then 2 else if (t.headD 0).toNat = 39 then 3
  else if (t.headD 0).toNat = 32 ∨ (t.headD 0).toNat = 10 ∨ (t.headD 0).toNat = 59 then 7
  else if sortU (t.headD 0) = 0 then 0 else tokK t

set_option maxHeartbeats 400000 in
theorem intKind_any (s : ByteArray) (hs : s.size ≤ maxLen) (w : World) :
    Calls Tryz.prog 203 #[.string s] w fun e w' => e = .returned (.int .i64 (if 18 < s.data.toList.length then 0 else 4)) ∧ w' = w := by
  rw [len_eq]
  unfold maxLen at hs
  by_cases h : 18 < s.size
  · have i1 : (18 : Int) < (s.size : Int) := by omega
    rw [if_pos h]
    go_enter Tryz.func203, Tryz.ntmps203
    go_wp2
    go_ret
    exact ⟨rfl, rfl⟩
  · have i1 : ¬ (18 : Int) < (s.size : Int) := by omega
    rw [if_neg h]
    go_enter Tryz.func203, Tryz.ntmps203
    go_wp2
    go_ret
    exact ⟨rfl, rfl⟩

theorem trim_body (s : ByteArray) (h0 : 0 < s.size) : Lib.trimPrefix s.data.toList [45] = body s.data.toList := by
  rw [first_at s h0]
  unfold Lib.trimPrefix Lib.hasPrefix body
  by_cases h : s[0] = 45
  · rw [h]; simp [minus, List.isPrefixOf]
  · have h1 : ([45] : List UInt8).isPrefixOf (s[0] :: List.drop 1 s.data.toList) = false := by simp [List.isPrefixOf]; exact fun e => h e.symm
    have h2 : minus (s[0] :: List.drop 1 s.data.toList) = false := by
      simp only [minus]; rw [beq_eq_false_iff_ne]; intro e; exact h (UInt8.toNat.inj (by simpa using e))
    rw [h1, h2]; rfl

set_option maxRecDepth 100000 in
set_option maxHeartbeats 1000000 in
theorem tokenKind_any (s : ByteArray) (h0 : 0 < s.size) (hs : s.size ≤ 1000) (w : World) (hm : MaxOk w) :
    Calls Tryz.prog 137 #[.string s] w fun e w' => e = .returned (.int .i64 (tokK s.data.toList)) ∧ w' = w := by
  have hr : ∃ r : Int, r = tokK s.data.toList := ⟨_, rfl⟩
  obtain ⟨r, hr⟩ := hr
  rw [← hr]
  have HR := hide hr
  clear hr
  obtain ⟨mm, hmm⟩ := hm
  have HT := hide (trim_body s h0)
  have hbl : (body s.data.toList).length ≤ s.size := by
    unfold body; split
    · simp
    · simp
  have hbs : (⟨(body s.data.toList).toArray⟩ : ByteArray).size = (body s.data.toList).length := by simp [ByteArray.size]
  cases t1 : (s.toList == [35, 116]) with
  | true =>
    have e1 := tok_eq s _ t1
    go_enter Tryz.func137, Tryz.ntmps137
    go_wp2_with (go_at_call 201; refine (Tryz.strings_TrimPrefix _ _ _).mono ?_; rintro e w' ⟨rfl, rfl⟩)
    go_ret
    exact ⟨ret_int (by rw [HR.out, e1]; rfl), rfl⟩
  | false =>
  cases t2 : (s.toList == [35, 102]) with
  | true =>
    have e1 := tok_eq s _ t2
    go_enter Tryz.func137, Tryz.ntmps137
    go_wp2_with (go_at_call 201; refine (Tryz.strings_TrimPrefix _ _ _).mono ?_; rintro e w' ⟨rfl, rfl⟩)
    go_ret
    exact ⟨ret_int (by rw [HR.out, e1]; rfl), rfl⟩
  | false =>
    have n12 : ¬ (s.data.toList = [35, 116] ∨ s.data.toList = [35, 102]) := fun h => h.elim (tok_ne s _ t1) (tok_ne s _ t2)
    have HK : Hid (r = if digits (body s.data.toList) then (if 18 < (body s.data.toList).length then 0 else 4) else if first1 s.data.toList || hashed s.data.toList then 0 else 6) := by show _ = _; rw [HR.out, tokK, if_neg n12]
    have HF : Hid (first1 s.data.toList = digB s[0].toNat) := by show _ = _; rw [first_at s h0, ← sortI_dig]; rfl
    have HCH := hide (contains_hash s.data.toList)
    clear n12
    go_enter Tryz.func137, Tryz.ntmps137
    go_wp2_with fail
    refine (Tryz.strings_TrimPrefix s ⟨#[45]⟩ _).mono ?_
    rintro e w' ⟨rfl, rfl⟩
    have ht : Lib.trimPrefix s.data.toList (⟨#[45]⟩ : ByteArray).data.toList = body s.data.toList := HT.out
    rw [ht]
    clear ht
    obtain ⟨bs, hbs'⟩ : ∃ bs : ByteArray, bs = ⟨(body s.data.toList).toArray⟩ := ⟨_, rfl⟩
    rw [← hbs']
    have hbd : bs.data.toList = body s.data.toList := by rw [hbs']
    have hbz : bs.size ≤ 1000 := by rw [hbs', hbs]; omega
    have hbm : bs.size ≤ maxLen := by unfold maxLen; omega
    have HBD := hide hbd
    have HBS := hide hbs'
    rw [← hbd] at hbl
    clear hbd hbs' hbs
    have HCC : Hid (Lib.contains s.data.toList (⟨#[35]⟩ : ByteArray).data.toList = hashed s.data.toList) := HCH.out
    go_wp2_with fail
    · have he : bs.toList = [] := by assumption
      have HD : Hid (digits (body s.data.toList) = false) := by show _ = _; rw [← HBD.out, ← ByteArray.toList_eq, he]; rfl
      refine (isDigit_any _ _).mono ?_
      rintro e w' ⟨rfl, rfl⟩
      cases hd : digB s[0].toNat with
      | true =>
        go_wp2
        go_ret
        exact ⟨ret_int (by rw [HK.out, HD.out, HF.out, hd]; rfl), rfl⟩
      | false =>
        go_wp2_with fail
        refine (Tryz.strings_Contains s ⟨#[35]⟩ mm _ (by omega) hmm).mono ?_
        rintro e w' ⟨rfl, rfl⟩
        rw [HCC.out]
        cases hh : hashed s.data.toList with
        | true =>
          go_wp2
          go_ret
          exact ⟨ret_int (by rw [HK.out, HD.out, HF.out, hd, hh]; rfl), rfl⟩
        | false =>
          go_wp2
          go_ret
          exact ⟨ret_int (by rw [HK.out, HD.out, HF.out, hd, hh]; rfl), rfl⟩
    · have he : ¬ bs.toList = [] := by assumption
      have hie : bs.toList.isEmpty = false := by cases h : bs.toList with | nil => exact absurd h he | cons a b => rfl
      refine (isDigits_any bs hbm _).mono ?_
      rintro e w' ⟨rfl, rfl⟩
      have HD : Hid (digits (body s.data.toList) = (bs.data.toList.all fun c => sortU c == 1)) := by
        show _ = _
        rw [← HBD.out, digits]
        rw [ByteArray.toList_eq] at he
        have : bs.data.toList.isEmpty = false := by cases h : bs.data.toList with | nil => exact absurd h he | cons a b => rfl
        rw [this]; rfl
      cases hal : (bs.data.toList.all fun c => sortU c == 1) with
      | true =>
        obtain ⟨q, hq⟩ : ∃ q : Int, q = if 18 < bs.data.toList.length then 0 else 4 := ⟨_, rfl⟩
        have HQ := hide hq
        have HIK := intKind_any bs hbm w'
        rw [← hq] at HIK
        have HIK := hide HIK
        clear hq
        go_wp2_with (go_at_call 203; refine HIK.out.mono ?_; rintro e w' ⟨rfl, rfl⟩)
        go_ret
        exact ⟨ret_int (by rw [HK.out, HD.out, hal, HQ.out, ← HBD.out]; rfl), rfl⟩
      | false =>
        go_wp2_with fail
        refine (isDigit_any _ _).mono ?_
        rintro e w' ⟨rfl, rfl⟩
        cases hd : digB s[0].toNat with
        | true =>
          go_wp2
          go_ret
          exact ⟨ret_int (by rw [HK.out, HD.out, hal, HF.out, hd]; rfl), rfl⟩
        | false =>
          go_wp2_with fail
          refine (Tryz.strings_Contains s ⟨#[35]⟩ mm _ (by omega) hmm).mono ?_
          rintro e w' ⟨rfl, rfl⟩
          rw [HCC.out]
          cases hh : hashed s.data.toList with
          | true =>
            go_wp2
            go_ret
            exact ⟨ret_int (by rw [HK.out, HD.out, hal, HF.out, hd, hh]; rfl), rfl⟩
          | false =>
            go_wp2
            go_ret
            exact ⟨ret_int (by rw [HK.out, HD.out, hal, HF.out, hd, hh]; rfl), rfl⟩

set_option maxRecDepth 100000 in
set_option maxHeartbeats 1000000 in
theorem kindOf_any (s : ByteArray) (h0 : 0 < s.size) (hs : s.size ≤ 1000) (w : World) (hm : MaxOk w) :
    Calls Tryz.prog 83 #[.string s] w fun e w' => e = .returned (.int .i64 (kindP s.data.toList)) ∧ w' = w := by
  have hd : s.data.toList.headD 0 = s[0] := by rw [first_at s h0]; rfl
  have hr : ∃ r : Int, r = kindP s.data.toList := ⟨_, rfl⟩
  obtain ⟨r, hr⟩ := hr
  rw [← hr]
  have HR : Hid (r = if s[0].toNat = 40 then 1 else if s[0].toNat = 41 then 2 else if s[0].toNat = 39 then 3 else if s[0].toNat = 32 ∨ s[0].toNat = 10 ∨ s[0].toNat = 59 then 7 else if sortI s[0].toNat = 0 then 0 else tokK s.data.toList) := by
    show _ = _; rw [hr, kindP, hd]; rfl
  clear hr hd
  have HTK := hide (tokenKind_any s h0 hs w hm)
  clear hm
  have hb0 : (0 : Int) ≤ (s[0].toNat : Int) := by omega
  have hb1 : (s[0].toNat : Int) ≤ 255 := by have := s[0].toNat_lt; omega
  by_cases h40 : s[0].toNat = 40
  · have b40 : ((s[0].toNat : Int) == 40) = true := by rw [beq_iff_eq]; omega
    have HH := hide h40
    clear h40
    go_enter Tryz.func83, Tryz.ntmps83
    go_wp2
    go_ret
    exact ⟨ret_int (by rw [HR.out, HH.out]; rfl), rfl⟩
  have b40 : ((s[0].toNat : Int) == 40) = false := by rw [beq_eq_false_iff_ne]; omega
  by_cases h41 : s[0].toNat = 41
  · have b41 : ((s[0].toNat : Int) == 41) = true := by rw [beq_iff_eq]; omega
    have HH := hide h41
    clear h41
    go_enter Tryz.func83, Tryz.ntmps83
    go_wp2
    go_ret
    exact ⟨ret_int (by rw [HR.out, HH.out]; rfl), rfl⟩
  have b41 : ((s[0].toNat : Int) == 41) = false := by rw [beq_eq_false_iff_ne]; omega
  by_cases h39 : s[0].toNat = 39
  · have b39 : ((s[0].toNat : Int) == 39) = true := by rw [beq_iff_eq]; omega
    have HH := hide h39
    clear h39
    go_enter Tryz.func83, Tryz.ntmps83
    go_wp2
    go_ret
    exact ⟨ret_int (by rw [HR.out, HH.out]; rfl), rfl⟩
  have b39 : ((s[0].toNat : Int) == 39) = false := by rw [beq_eq_false_iff_ne]; omega
  by_cases h32 : s[0].toNat = 32
  · have b32 : ((s[0].toNat : Int) == 32) = true := by rw [beq_iff_eq]; omega
    have HH := hide h32
    clear h32
    go_enter Tryz.func83, Tryz.ntmps83
    go_wp2
    go_ret
    exact ⟨ret_int (by rw [HR.out, HH.out]; rfl), rfl⟩
  have b32 : ((s[0].toNat : Int) == 32) = false := by rw [beq_eq_false_iff_ne]; omega
  by_cases h10 : s[0].toNat = 10
  · have b10 : ((s[0].toNat : Int) == 10) = true := by rw [beq_iff_eq]; omega
    have HH := hide h10
    clear h10
    go_enter Tryz.func83, Tryz.ntmps83
    go_wp2
    go_ret
    exact ⟨ret_int (by rw [HR.out, HH.out]; rfl), rfl⟩
  have b10 : ((s[0].toNat : Int) == 10) = false := by rw [beq_eq_false_iff_ne]; omega
  by_cases h59 : s[0].toNat = 59
  · have b59 : ((s[0].toNat : Int) == 59) = true := by rw [beq_iff_eq]; omega
    have HH := hide h59
    clear h59
    go_enter Tryz.func83, Tryz.ntmps83
    go_wp2
    go_ret
    exact ⟨ret_int (by rw [HR.out, HH.out]; rfl), rfl⟩
  have b59 : ((s[0].toNat : Int) == 59) = false := by rw [beq_eq_false_iff_ne]; omega
  have HN : Hid (r = if sortI s[0].toNat = 0 then 0 else tokK s.data.toList) := by show _ = _; rw [HR.out, if_neg h40, if_neg h41, if_neg h39, if_neg (by omega)]
  clear h40 h41 h39 h32 h10 h59
  cases hb : (sortI s[0].toNat != 0) with
  | false =>
    go_enter Tryz.func83, Tryz.ntmps83
    go_wp2_with (go_at_call 134; refine (isTokenByte_any _ (by omega) (by omega) _).mono ?_; rintro e w' ⟨rfl, rfl⟩)
    go_ret
    exact ⟨ret_int (by rw [HN.out, if_pos (by simpa using hb)]), rfl⟩
  | true =>
    go_enter Tryz.func83, Tryz.ntmps83
    go_wp2_with fail
    refine (isTokenByte_any _ hb0 hb1 _).mono ?_
    rintro e w' ⟨rfl, rfl⟩
    go_wp2_with fail
    refine HTK.out.mono ?_
    rintro e w' ⟨rfl, rfl⟩
    go_wp2
    go_ret
    exact ⟨ret_int (by rw [HN.out, if_neg (by simpa using hb)]), rfl⟩
end Go.Proofs.YtlobegpjenabaaaGreatDoor

/- Values of the program in memory. -/
namespace Go.Proofs.YtlobegpjenabaaaGreatDoor
open Go.RowKit
set_option linter.unusedSimpArgs false
set_option linter.unusedVariables false

/-- An atom as the program has it. -/
def atomI : D → Option Value
  | .lit (.int .i64 k) => some (.iface 130 (.int .i64 k))
  | .lit (.bool b) => some (.iface 131 (.bool b))
  | .lit (.string t) => some (.iface 134 (.string ⟨t.toArray⟩))
  | _ => none
def ChainI (w : World) (R : Value → D → Prop) : Value → List D → Prop
  | v, [] => v = .iface 207 (.agg #[])
  | v, d :: r => ∃ b v1 v2, v = .iface 136 (.pointer (some ⟨b, 0, none⟩)) ∧ w.heap[b]? = some (Obj.cells #[v1, v2] 205 (0, 0)) ∧ R v1 d ∧ ChainI w R v2 r
/-- A datum that is less than so deep, as the program has it. -/
def IV (w : World) : Nat → Value → D → Prop
  | 0, _, _ => False
  | n + 1, v, .agg l => l.length ≤ 1000 ∧ ChainI w (IV w n) v l
  | _ + 1, v, d => atomI d = some v
def IVs (w : World) (n : Nat) : List Value → List D → Prop
  | [], [] => True
  | v :: vs, d :: ds => IV w n v d ∧ IVs w n vs ds
  | _, _ => False

theorem ChainI.keep {w w' : World} {R R' : Value → D → Prop} (k : Keep 205 w w') (hR : ∀ c d, R c d → R' c d) : ∀ (l : List D) (v : Value), ChainI w R v l → ChainI w' R' v l
  | [], v, h => h
  | d :: r, v, ⟨b, v1, v2, e, hb, hd, hr⟩ => ⟨b, v1, v2, e, k _ _ hb, hR _ _ hd, ChainI.keep k hR r v2 hr⟩
theorem IV.keep {w w' : World} (k : Keep 205 w w') : ∀ (n : Nat) (v : Value) (d : D), IV w n v d → IV w' n v d
  | 0, _, _, h => h.elim
  | n + 1, v, .agg l, h => ⟨h.1, ChainI.keep k (IV.keep k n) l v h.2⟩
  | n + 1, v, .lit _, h => h
  | n + 1, v, .nil, h => h
  | n + 1, v, .ptr _, h => h
  | n + 1, v, .slice _ _, h => h
  | n + 1, v, .iface _ _, h => h
  | n + 1, v, .map _, h => h
  | n + 1, v, .held _, h => h
theorem IVs.keep {w w' : World} (k : Keep 205 w w') (n : Nat) : ∀ (vs : List Value) (ds : List D), IVs w n vs ds → IVs w' n vs ds
  | [], [], h => h
  | c :: cs, d :: ds, h => ⟨IV.keep k n c d h.1, IVs.keep k n cs ds h.2⟩
  | [], _ :: _, h => h.elim
  | _ :: _, [], h => h.elim
theorem IV.up {w : World} : ∀ (n : Nat) (v : Value) (d : D), IV w n v d → IV w (n + 1) v d
  | 0, _, _, h => h.elim
  | n + 1, v, .agg l, h => ⟨h.1, ChainI.keep (Keep.refl w) (IV.up n) l v h.2⟩
  | n + 1, v, .lit _, h => h
  | n + 1, v, .nil, h => h
  | n + 1, v, .ptr _, h => h
  | n + 1, v, .slice _ _, h => h
  | n + 1, v, .iface _ _, h => h
  | n + 1, v, .map _, h => h
  | n + 1, v, .held _, h => h
theorem IV.pos {w : World} {v : Value} {d : D} {n : Nat} (h : IV w n v d) : 0 < n := by
  cases n with
  | zero => exact h.elim
  | succ n => omega
theorem IV.len {w : World} {v : Value} {d : D} {n : Nat} (h : IV w n v d) : (itemsD d).length ≤ 1000 := by
  obtain ⟨m, rfl⟩ : ∃ m, n = m + 1 := ⟨n - 1, by have := h.pos; omega⟩
  cases d with
  | agg l => exact h.1
  | _ => simp [itemsD]
theorem IVs.length {w : World} {n : Nat} : ∀ {vs : List Value} {ds : List D}, IVs w n vs ds → vs.length = ds.length
  | [], [], _ => rfl
  | c :: cs, d :: ds, h => by simp [IVs.length h.2]
  | [], _ :: _, h => h.elim
  | _ :: _, [], h => h.elim
theorem IVs.append {w : World} {n : Nat} : ∀ {vs : List Value} {ds : List D} {vs' : List Value} {ds' : List D}, IVs w n vs ds → IVs w n vs' ds' → IVs w n (vs ++ vs') (ds ++ ds')
  | [], [], _, _, _, h' => h'
  | c :: cs, d :: ds, _, _, h, h' => ⟨h.1, IVs.append h.2 h'⟩
  | [], _ :: _, _, _, h, _ => h.elim
  | _ :: _, [], _, _, h, _ => h.elim
theorem IVs.at {w : World} {n : Nat} : ∀ {vs : List Value} {ds : List D} (h : IVs w n vs ds) (k : Nat) (hk : k < ds.length), ∃ v, vs[k]? = some v ∧ IV w n v ds[k]
  | [], [], _, k, hk => absurd hk (by simp)
  | c :: cs, d :: ds, h, 0, _ => ⟨c, rfl, h.1⟩
  | c :: cs, d :: ds, h, k + 1, hk => by
    obtain ⟨v, h1, h2⟩ := IVs.at h.2 k (by simpa using hk)
    exact ⟨v, by simpa using h1, h2⟩
  | [], _ :: _, h, _, _ => h.elim
  | _ :: _, [], h, _, _ => h.elim
theorem ChainI.form {w : World} {R : Value → D → Prop} : ∀ {l : List D} {v : Value}, ChainI w R v l → ∃ t x, v = .iface t x
  | [], v, h => ⟨_, _, h⟩
  | _ :: _, v, h => by obtain ⟨b, v1, v2, e, _⟩ := h; exact ⟨_, _, e⟩
theorem IV.form {w : World} : ∀ (n : Nat) (v : Value) (d : D), IV w n v d → ∃ t x, v = .iface t x
  | 0, _, _, h => h.elim
  | n + 1, v, .agg l, h => h.2.form
  | n + 1, v, .lit (.int k m), h => by
    cases k <;> first | (cases h; done) | (have h : some _ = some v := h; cases h; exact ⟨_, _, rfl⟩)
  | n + 1, v, .lit (.bool _), h => by have h : some _ = some v := h; cases h; exact ⟨_, _, rfl⟩
  | n + 1, v, .lit (.string _), h => by have h : some _ = some v := h; cases h; exact ⟨_, _, rfl⟩
  | n + 1, v, .lit (.float _ _), h => by cases h
  | n + 1, v, .lit .nil, h => by cases h
  | n + 1, v, .nil, h => by cases h
  | n + 1, v, .ptr _, h => by cases h
  | n + 1, v, .slice _ _, h => by cases h
  | n + 1, v, .iface _ _, h => by cases h
  | n + 1, v, .map _, h => by cases h
  | n + 1, v, .held _, h => by cases h

/-- A row of values of the program. -/
def RowI (B : Nat) (w : World) (v : Value) (vs : List Value) : Prop := w.ownsRow B 81 1 v vs.length vs
theorem RowI.nil (B : Nat) (w : World) : RowI B w (.slice none 0 0) [] := World.ownsRow_nil _ _ _ _
theorem infoVal : (Tryz.prog.info? 81).map (fun i => (i.zero, i.size, i.bytes)) = some (some .nilIface, 1, 16) := by kernel_rfl
theorem rowI_at {B n : Nat} {w : World} {v : Value} {vs : List Value} {ds : List D} (hrow : RowI B w v vs) (hds : IVs w n vs ds) : ∃ a cap, v = .slice a ds.length cap ∧ ds.length ≤ cap ∧ cap ≤ maxLen ∧
    ∀ k (hk : k < ds.length), ∃ g, a = some ⟨g, 0, none⟩ ∧ g < w.heap.size ∧ ∃ t x, IV w n (.iface t x) ds[k] ∧ w.cell? ⟨g, k, none⟩ = some (.iface t x) := by
  have hl := hds.length
  obtain ⟨a, cap, hv, h1, h2, h3⟩ := ownsRow_slice hrow
  rw [hl] at hv h1 h3
  refine ⟨a, cap, hv, h1, h2, fun k hk => ?_⟩
  obtain ⟨g, ha, _, hg, hc⟩ := h3 (by omega)
  obtain ⟨u, hu, hiv⟩ := hds.at k hk
  obtain ⟨t, x, rfl⟩ := IV.form _ _ _ hiv
  exact ⟨g, ha, hg, t, x, hiv, hc _ _ hu⟩

theorem ilist_round {n : Nat} {ds : List D} {w wr : World} {j : Nat} {v u : Value} (hj : j < ds.length) (hch : ChainI wr (IV wr n) v (ds.drop (j + 1))) (hb : Below w.heap.size w wr) (hE : IV w n u ds[j]) :
    ChainI (wr.alloc (.cells #[u, v] 205)) (IV (wr.alloc (.cells #[u, v] 205)) n) (.iface 136 (.pointer (some ⟨wr.heap.size, 0, none⟩))) (ds.drop j) ∧ Below w.heap.size w (wr.alloc (.cells #[u, v] 205)) := by
  have hb2 : Below wr.heap.size wr (wr.alloc (.cells #[u, v] 205)) := (Below.refl _ _).alloc (Nat.le_refl _) _
  have hk := Keep.of_below (T := 205) hb2
  rw [drop_cons ds j hj]
  exact ⟨⟨_, u, v, rfl, heap_alloc_new _ _, IV.keep ((Keep.of_below hb).trans hk) _ _ _ hE, ChainI.keep hk (IV.keep hk n) _ _ hch⟩, hb.alloc hb.size _⟩

set_option maxRecDepth 100000 in
set_option maxHeartbeats 1000000 in
theorem ilist_any (n : Nat) (vs : List Value) (ds : List D) (v : Value) (w : World) (B : Nat) (hrow : RowI B w v vs) (hds : IVs w n vs ds) (hlen : ds.length ≤ 1000) :
    Calls Tryz.prog 139 #[v] w fun e w' => ∃ u, e = .returned u ∧ IV w' (n + 1) u (.agg ds) ∧ Below w.heap.size w w' := by
  obtain ⟨a, cap, rfl, hc1, hc2, hat⟩ := rowI_at hrow hds
  have HAT := hide hat
  clear hat hrow hds
  unfold maxLen at hc2
  go_enter Tryz.func139, Tryz.ntmps139
  go_wp2
  go_loopw [3, 4] (fun u i wr => ∃ k : Nat, k ≤ ds.length ∧ i = .int .i64 ((k : Int) - 1) ∧ ChainI wr (IV wr n) u (ds.drop k) ∧ Below w.heap.size w wr) (fun _ i _ => (intOf i + 1).toNat)
  case atStart => exact ⟨ds.length, Nat.le_refl _, rfl, by rw [List.drop_length]; rfl, Below.refl _ _⟩
  case round =>
    obtain ⟨k, hk, rfl, hch, hb⟩ := hrel
    have HCH := hide hch
    have HB := hide hb
    rcases Nat.eq_zero_or_pos k with rfl | hkp
    · obtain ⟨t, x, rfl⟩ := hch.form
      clear hch hb
      go_wp2
      go_ret
      exact ⟨_, rfl, ⟨hlen, HCH.out⟩, HB.out⟩
    · obtain ⟨j, rfl⟩ : ∃ j, k = j + 1 := ⟨k - 1, by omega⟩
      obtain ⟨g, rfl, hg, t, x, hiv, c0⟩ := HAT.out j (by omega)
      obtain ⟨t2, x2, rfl⟩ := hch.form
      have d0 : wr.cell? ⟨g, j, none⟩ = some (.iface t x) := by rw [hb.cell (p := ⟨g, j, none⟩) hg]; exact c0
      have hjl : j < ds.length := by omega
      have HIV := hide hiv
      clear hch hb hiv c0
      go_wp2
      go_roundw
      case rel => exact ⟨j, by omega, rfl, ilist_round hjl HCH.out HB.out HIV.out⟩
      case measure => simp [intOf]
end Go.Proofs.YtlobegpjenabaaaGreatDoor

/- read.tokenValue. -/
namespace Go.Proofs.YtlobegpjenabaaaGreatDoor
open Go.RowKit
set_option linter.unusedSimpArgs false
set_option linter.unusedVariables false

theorem sortU_dig (c : UInt8) (h : (sortU c == 1) = true) : 48 ≤ c.toNat ∧ c.toNat ≤ 57 := by
  have := sortI_one (b := (c.toNat : Int)) h
  omega
theorem valF_parse : ∀ (l : List UInt8) (a : Nat) (k : Nat), (l.all fun c => sortU c == 1) = true → a < 10 ^ k → k + l.length ≤ 18 → ∃ u : Nat, Lib.parseUintM (2 ^ 64 - 1) a l = .ok u ∧ valF a l = u ∧ u < 10 ^ (k + l.length)
  | [], a, k, _, ha, _ => ⟨a, by simp [Lib.parseUintM], rfl, by simpa using ha⟩
  | c :: r, a, k, hd, ha, hk => by
    simp only [List.all_cons, Bool.and_eq_true] at hd
    obtain ⟨h1, h2⟩ := sortU_dig c hd.1
    have hlt : 10 * a + (c.toNat - 48) < 10 ^ (k + 1) := by rw [Nat.pow_succ]; omega
    have hp : 10 ^ (k + 1) ≤ 10 ^ 18 := Nat.pow_le_pow_right (by omega) (by simp at hk; omega)
    obtain ⟨u, e1, e2, e3⟩ := valF_parse r (10 * a + (c.toNat - 48)) (k + 1) hd.2 hlt (by simp at hk; omega)
    refine ⟨u, ?_, ?_, by rw [List.length_cons]; rw [show k + (r.length + 1) = k + 1 + r.length from by omega]; exact e3⟩
    · have hk17 : 10 ^ k ≤ 10 ^ 17 := Nat.pow_le_pow_right (by omega) (by simp at hk; omega)
      rw [Lib.parseUintM, if_pos ⟨h1, h2⟩, if_neg (by omega), if_neg (by omega), Nat.mul_comm a 10]; exact e1
    · rw [valF, ← e2]; congr 1; omega
theorem parse_num (t : List UInt8) (hd : digits (body t) = true) (h18 : (body t).length ≤ 18) : Lib.parseIntB 64 t = .ok (if minus t then -(val (body t)) else val (body t)) := by
  have hne : (body t).isEmpty = false ∧ ((body t).all fun c => sortU c == 1) = true := by
    unfold digits at hd; rw [Bool.and_eq_true] at hd; exact ⟨by simpa using hd.1, hd.2⟩
  obtain ⟨u, e1, e2, e3⟩ := valF_parse (body t) 0 0 hne.2 (by simp) (by omega)
  have hu : u < 10 ^ 18 := Nat.lt_of_lt_of_le e3 (Nat.pow_le_pow_right (by omega) (by omega))
  have hB : Lib.parseUintB 64 (body t) = .ok u := by
    unfold Lib.parseUintB
    rw [if_neg (by intro h; rw [h] at hne; exact absurd hne.1 (by simp))]; exact e1
  have hval : val (body t) = u := e2
  cases t with
  | nil => simp [body, minus, digits] at hd
  | cons c r =>
    by_cases hm : c.toNat = 45
    · have hmin : minus (c :: r) = true := by simp [minus, hm]
      have hb : body (c :: r) = r := by unfold body; rw [hmin]; rfl
      rw [hb] at hB hval
      simp only [Lib.parseIntB]
      rw [if_pos (Or.inr hm), hB, hmin, hb, hval]
      simp only [hm]
      rw [if_neg (by simp), if_neg (by omega)]
    · have hmin : minus (c :: r) = false := by simp [minus, hm]
      have hb : body (c :: r) = c :: r := by unfold body; rw [hmin]; rfl
      have h43 : ¬ c.toNat = 43 := by
        intro h
        have := hne.2
        rw [hb, List.all_cons, Bool.and_eq_true] at this
        have := sortU_dig c this.1
        omega
      rw [hb] at hB hval
      simp only [Lib.parseIntB]
      rw [if_neg (by omega), hB, hmin, hb, hval]
      simp only [hm]
      rw [if_neg (by simp; omega), if_neg (by simp)]; rfl

theorem bt_of (s : ByteArray) : (⟨s.data.toList.toArray⟩ : ByteArray) = s := by cases s; simp

/-- What a token's kind says. -/
theorem tokK_cases (t : List UInt8) : (tokK t = 0 ∧ tokD t = none) ∨ (tokK t = 5 ∧ ∃ b, t = [35, if b then 116 else 102] ∧ tokD t = some (boo b)) ∨ (tokK t = 4 ∧ digits (body t) = true ∧ (body t).length ≤ 18 ∧ tokD t = some (num (if minus t then -(val (body t)) else val (body t)))) ∨ (tokK t = 6 ∧ tokD t = some (sym t)) := by
  unfold tokK tokD
  by_cases h1 : t = [35, 116]
  · subst h1; exact Or.inr (Or.inl ⟨rfl, true, rfl, rfl⟩)
  by_cases h2 : t = [35, 102]
  · subst h2; exact Or.inr (Or.inl ⟨rfl, false, rfl, rfl⟩)
  rw [if_neg (by simp [h1, h2]), if_neg h1, if_neg h2]
  by_cases hd : digits (body t) = true
  · rw [if_pos hd, if_pos hd]
    by_cases hl : 18 < (body t).length
    · rw [if_pos hl, if_pos hl]; exact Or.inl ⟨rfl, rfl⟩
    · rw [if_neg hl, if_neg hl]; exact Or.inr (Or.inr (Or.inl ⟨rfl, hd, by omega, rfl⟩))
  · rw [if_neg hd, if_neg hd]
    by_cases hf : (first1 t || hashed t) = true
    · rw [if_pos hf, if_pos hf]; exact Or.inl ⟨rfl, rfl⟩
    · rw [if_neg hf, if_neg hf]; exact Or.inr (Or.inr (Or.inr ⟨rfl, rfl⟩))

set_option maxHeartbeats 1000000 in
theorem clone_any (s : ByteArray) (hs : s.size ≤ 1000) (w : World) :
    Calls Tryz.prog 142 #[.string s] w fun e w' => e = .returned (.string s) ∧ Below w.heap.size w w' := by
  go_enter Tryz.func142, Tryz.ntmps142
  go_wp2_with fail
  refine (Tryz.stringslite_Clone s _ (by omega)).mono ?_
  rintro e w1 ⟨rfl, hb⟩
  have HB := hide hb
  clear hb
  go_wp2
  go_ret
  exact ⟨rfl, HB.out⟩

set_option maxRecDepth 100000 in
set_option maxHeartbeats 1000000 in
/-- tokenValue, of a token that may stand. -/
theorem tokenValue_any (s : ByteArray) (p : Int) (hs : s.size ≤ 1000) (d : D) (hd : tokD s.data.toList = some d) (w : World) :
    Calls Tryz.prog 87 #[.agg #[.int .i64 (tokK s.data.toList), .int .i64 p, .string s]] w fun e w' => ∃ u, e = .returned u ∧ atomI d = some u ∧ Below w.heap.size w w' := by
  rcases tokK_cases s.data.toList with ⟨h1, h2⟩ | ⟨h1, b, h2, h3⟩ | ⟨h1, h2, h3, h4⟩ | ⟨h1, h2⟩
  · rw [h2] at hd; cases hd
  · rw [h3] at hd; cases hd
    rw [h1]
    have hb : (s.toList == [35, 116]) = b := by rw [ByteArray.toList_eq, h2]; cases b <;> rfl
    clear h1 h2 h3
    go_enter Tryz.func87, Tryz.ntmps87
    go_wp2
    go_ret
    exact ⟨_, rfl, by rw [← hb]; rfl, (Below.refl _ _).alloc (Nat.le_refl _) _⟩
  · obtain ⟨q, hq⟩ : ∃ q : Int, q = if minus s.data.toList then -(val (body s.data.toList)) else val (body s.data.toList) := ⟨_, rfl⟩
    have hp := parse_num _ h2 h3
    rw [← hq] at h4 hp
    rw [h4] at hd; cases hd
    rw [h1]
    have HP := hide (Tryz.strconv_ParseInt_10_at64_ok s (by omega) q hp)
    clear h1 h2 h3 h4 hq hp
    go_enter Tryz.func87, Tryz.ntmps87
    go_wp2_with fail
    refine (HP.out _).mono ?_
    rintro e w1 ⟨rfl, hw⟩
    have hb : Below w.heap.size w w1 := by
      rcases hw with rfl | ⟨t, rfl⟩
      · exact (Below.refl _ _).alloc (Nat.le_refl _) _
      · exact ((Below.refl _ _).alloc (Nat.le_refl _) _).trans ((Lib.bytesWorld_below _ _ _).mono (by simp))
    have HB := hide hb
    clear hw hb
    go_wp2
    go_ret
    exact ⟨_, rfl, rfl, HB.out⟩
  · rw [h2] at hd; cases hd
    rw [h1]
    clear h1 h2
    go_enter Tryz.func87, Tryz.ntmps87
    go_wp2_with fail
    refine (clone_any s hs _).mono ?_
    rintro e w1 ⟨rfl, hb1⟩
    have HB := hide (show Below w.heap.size w w1 from ((Below.refl _ _).alloc (Nat.le_refl _) _).trans (hb1.mono (by simp)))
    clear hb1
    go_wp2
    go_ret
    exact ⟨_, rfl, by simp only [sym, atomI, bt_of]; rfl, HB.out⟩
end Go.Proofs.YtlobegpjenabaaaGreatDoor

/- read: the reader in memory; innermost, leave. -/
namespace Go.Proofs.YtlobegpjenabaaaGreatDoor
open Go.RowKit
set_option linter.unusedSimpArgs false
set_option linter.unusedVariables false
attribute [local go_sem ↓] Go.wp_at_zero Go.wp_at_succ

/-- The reader's block. -/
def rdr (fv ov : Value) : Obj := .cells #[fv, ov] 122 (0, 0)

set_option maxHeartbeats 1000000 in
theorem innermost_any (R g n cap : Nat) (fv : Value) (w : World) (hR : w.heap[R]? = some (rdr fv (.slice (some ⟨g, 0, none⟩) n cap))) (hn : 0 < n) (hc : n ≤ cap) (hm : cap ≤ maxLen) :
    Calls Tryz.prog 138 #[.pointer (some ⟨R, 0, none⟩)] w fun e w' => e = .returned (.pointer (some ⟨g, (n - 1) * 2, none⟩)) ∧ ∃ q, w' = w.drewN q := by
  have c1 := cell_of_block hR 1
  simp at c1
  clear hR
  unfold maxLen at hm
  obtain ⟨m, rfl⟩ : ∃ m, n = m + 1 := ⟨n - 1, by omega⟩
  have i1 : (0 : Int) ≤ ((m + 1 : Nat) : Int) - 1 := by omega
  have i2 : ((m + 1 : Nat) : Int) - 1 < ((m + 1 : Nat) : Int) := by omega
  go_enter Tryz.func138, Tryz.ntmps138
  go_wp2
  go_quiet (fail)
  go_wp2
  go_ret
  exact ⟨by simp, _, rfl⟩

set_option maxHeartbeats 1000000 in
theorem leave_any (R g n cap : Nat) (fv : Value) (w : World) (hR : w.heap[R]? = some (rdr fv (.slice (some ⟨g, 0, none⟩) n cap))) (hn : 0 < n) (hc : n ≤ cap) (hm : cap ≤ maxLen) :
    Calls Tryz.prog 140 #[.pointer (some ⟨R, 0, none⟩)] w fun e w' => e = .returned (.tuple #[]) ∧ w'.heap[R]? = some (rdr fv (.slice (some ⟨g, 0, none⟩) (n - 1) cap)) ∧ Upd (fun k => k = R) w w' := by
  have c1 := cell_of_block hR 1
  have f1 := frozen_of_block hR 1
  simp at c1
  have HR := hide hR
  clear hR
  unfold maxLen at hm
  obtain ⟨m, rfl⟩ : ∃ m, n = m + 1 := ⟨n - 1, by omega⟩
  have i1 : (0 : Int) ≤ ((m + 1 : Nat) : Int) - 1 := by omega
  have i2 : ((m + 1 : Nat) : Int) - 1 ≤ (cap : Int) := by omega
  go_enter Tryz.func140, Tryz.ntmps140
  go_wp2
  go_region
  all_goals
    go_end0
    exact ⟨rfl, heap_setCell_same HR.out, ((Upd.refl (fun k => k = R) w).setCell ⟨R, 1, none⟩ _ (fun _ => rfl)).drew⟩

/-- What is open, outermost first, as the cells of its row. -/
def flatO : List (Bool × List D) → List (Value × List Value) → List Value
  | (q, _) :: os, (v, _) :: is => .bool q :: v :: flatO os is
  | _, _ => []
/-- Each one's data lie in a row of its own. -/
def OpensOk (w : World) (B : Nat) : Nat → List (Bool × List D) → List (Value × List Value) → Prop
  | _, [], [] => True
  | k, (_, ds) :: os, (v, vs) :: is => RowI B w v vs ∧ IVs w (20 - k) vs ds ∧ OpensOk w B (k + 1) os is
  | _, _, _ => False
/-- Two slices that do not lie in one block. -/
def ApartV (a b : Value) : Prop := ∀ g, a.ownBlock = some g → b.ownBlock = some g → False

/-- The reader in memory: the forms, and what is open, innermost first. -/
structure RdOk (w : World) (R B : Nat) (forms : List D) (opens : List (Bool × List D)) (fv ov : Value) (fs : List Value) (its : List (Value × List Value)) : Prop where
  hR : w.heap[R]? = some (rdr fv ov)
  hlt : R < B
  hf : RowI B w fv fs
  hfi : IVs w 21 fs forms
  ho : w.ownsRow B 250 2 ov its.length (flatO opens.reverse its)
  hits : OpensOk w B 0 opens.reverse its
  ap : (fv :: its.map Prod.fst).Pairwise ApartV

theorem OpensOk.length {w : World} {B : Nat} : ∀ {k : Nat} {os : List (Bool × List D)} {is : List (Value × List Value)}, OpensOk w B k os is → os.length = is.length
  | _, [], [], _ => rfl
  | k, (_, _) :: os, (_, _) :: is, h => by simp [OpensOk.length h.2.2]
  | _, [], _ :: _, h => h.elim
  | _, _ :: _, [], h => by cases ‹_ × _›; exact h.elim
theorem OpensOk.snoc {w : World} {B : Nat} : ∀ {k : Nat} {os : List (Bool × List D)} {is : List (Value × List Value)} {q : Bool} {ds : List D} {v : Value} {vs : List Value}, OpensOk w B k os is → RowI B w v vs → IVs w (20 - (k + os.length)) vs ds → OpensOk w B k (os ++ [(q, ds)]) (is ++ [(v, vs)])
  | k, [], [], q, ds, v, vs, _, h1, h2 => ⟨h1, h2, trivial⟩
  | k, (_, _) :: os, (_, _) :: is, q, ds, v, vs, h, h1, h2 => ⟨h.1, h.2.1, OpensOk.snoc h.2.2 h1 (by rw [show k + 1 + os.length = k + ((_ :: os : List (Bool × List D))).length from by simp; omega]; exact h2)⟩
  | _, [], _ :: _, _, _, _, _, h, _, _ => h.elim
  | _, _ :: _, [], _, _, _, _, h, _, _ => by cases ‹_ × _›; exact h.elim
/-- The innermost, taken off. -/
theorem OpensOk.last {w : World} {B : Nat} : ∀ {k : Nat} {os : List (Bool × List D)} {o : Bool × List D} {is : List (Value × List Value)}, OpensOk w B k (os ++ [o]) is → ∃ is' v vs, is = is' ++ [(v, vs)] ∧ OpensOk w B k os is' ∧ RowI B w v vs ∧ IVs w (20 - (k + os.length)) vs o.2
  | k, [], (q, ds), (v, vs) :: is, h => by
    cases is with
    | nil => exact ⟨[], v, vs, rfl, trivial, h.1, h.2.1⟩
    | cons a b => exact h.2.2.elim
  | k, [], (q, ds), [], h => h.elim
  | k, (_, _) :: os, o, (a, b) :: is, h => by
    obtain ⟨is', v, vs, e, h1, h2, h3⟩ := OpensOk.last h.2.2
    exact ⟨(a, b) :: is', v, vs, by rw [e]; rfl, ⟨h.1, h.2.1, h1⟩, h2, by rw [show k + ((_ :: os : List (Bool × List D))).length = k + 1 + os.length from by simp; omega]; exact h3⟩
  | k, (_, _) :: os, o, [], h => h.elim
theorem flatO_snoc : ∀ {os : List (Bool × List D)} {is : List (Value × List Value)} {q : Bool} {ds : List D} {v : Value} {vs : List Value}, os.length = is.length → flatO (os ++ [(q, ds)]) (is ++ [(v, vs)]) = flatO os is ++ [.bool q, v]
  | [], [], _, _, _, _, _ => rfl
  | (_, _) :: os, (_, _) :: is, q, ds, v, vs, h => by
    have := flatO_snoc (os := os) (is := is) (q := q) (ds := ds) (v := v) (vs := vs) (by simpa using h)
    simp only [List.cons_append, flatO, this]
  | [], _ :: _, _, _, _, _, h => by simp at h
  | _ :: _, [], _, _, _, _, h => by simp at h
theorem flatO_length : ∀ {os : List (Bool × List D)} {is : List (Value × List Value)}, os.length = is.length → (flatO os is).length = is.length * 2
  | [], [], _ => rfl
  | (_, _) :: os, (_, _) :: is, h => by
    have := flatO_length (os := os) (is := is) (by simpa using h)
    simp only [flatO, List.length_cons, this]; omega
  | [], _ :: _, h => by simp at h
  | _ :: _, [], h => by simp at h

/-- Everything that is open is as it was, where its rows are. -/
theorem OpensOk.keep {w w' : World} {B : Nat} {S : Nat → Prop} (hu : Upd S w w') (hk : Keep 205 w w') : ∀ {k : Nat} {os : List (Bool × List D)} {is : List (Value × List Value)}, OpensOk w B k os is → (∀ x ∈ is, ∀ g, x.1.ownBlock = some g → ¬ S g) → OpensOk w' B k os is
  | _, [], [], _, _ => trivial
  | k, (_, _) :: os, (v, vs) :: is, h, hs => ⟨ownsRow_of_upd h.1 hu (fun g hg => hs (v, vs) (by simp) g hg), IVs.keep hk _ _ _ h.2.1, OpensOk.keep hu hk h.2.2 (fun x hx => hs x (by simp [hx]))⟩
  | _, [], _ :: _, h, _ => h.elim
  | _, _ :: _, [], h, _ => by cases ‹_ × _›; exact h.elim
theorem ownsRow_tag {w : World} {base e e' size n : Nat} {v : Value} {xs : List Value} {c : Array Value} {fz : Nat × Nat} (h : w.ownsRow base e size v n xs) {k : Nat} (hk : v.ownBlock = some k) (hh : w.heap[k]? = some (Obj.cells c e' fz)) : e' = e := by
  rcases h.2 with ⟨hv, _⟩ | ⟨g', cap, cu, hv, hb, hg, r⟩
  · rw [hv] at hk; cases hk
  · rw [hv] at hk; cases hk; rw [hh] at hg; cases hg; rfl
theorem OpensOk.rows {w : World} {B : Nat} : ∀ {k : Nat} {os : List (Bool × List D)} {is : List (Value × List Value)}, OpensOk w B k os is → ∀ x ∈ is, RowI B w x.1 x.2
  | _, [], [], _ => fun x hx => absurd hx (by simp)
  | k, (_, _) :: os, (v, vs) :: is, h => fun x hx => by
    rcases List.mem_cons.1 hx with rfl | hx
    · exact h.1
    · exact OpensOk.rows h.2.2 x hx
  | _, [], _ :: _, h => h.elim
  | _, _ :: _, [], h => by cases ‹_ × _›; exact h.elim
end Go.Proofs.YtlobegpjenabaaaGreatDoor
