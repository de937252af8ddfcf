/- latheref.token: what a token says. -/
import Derived.Test.YtlobegpjenabaaaGreatDoorK01
import Derived.Laws.ResultCell
import Derived.Deep.AppendLies
import Derived.RegionTactic
namespace Go.Proofs.YtlobegpjenabaaaGreatDoor
open Go.RowKit
set_option linter.unusedSimpArgs false
set_option linter.unusedVariables false

theorem hide {p : Prop} (h : p) : Hid p := h

/-- The cells of a value of the document's answer. -/
def rcells (k n : Int) (s : ByteArray) (p : Option Addr) : Array Value := #[.int .i64 k, .int .i64 n, .string s, .pointer p, .pointer none]
def emptyB : ByteArray := ⟨#[]⟩
/-- The cells of an atom; of none (what a fault leaves): the zero ones. -/
def atomR : D → Option (Array Value)
  | .lit (.int .i64 k) => some (rcells 1 k emptyB none)
  | .lit (.bool b) => some (rcells 2 (if b then 1 else 0) emptyB none)
  | .lit (.string t) => some (rcells 3 0 ⟨t.toArray⟩ none)
  | .nil => some (rcells 0 0 emptyB none)
  | _ => none

theorem take_snoc (s : ByteArray) (k : Nat) (h : k < s.size) : s.data.toList.take (k + 1) = s.data.toList.take k ++ [s[k]] := by
  rw [List.take_succ_eq_append_getElem (by simpa using h)]; rfl

def hashT (s : ByteArray) (k : Nat) : Bool := hashed (s.data.toList.take k)
def onlyT (s : ByteArray) (f k : Nat) : Bool := decide (f < s.size) && ((s.data.toList.take k).drop f).all fun c => sortU c == 1
def valT (s : ByteArray) (f k : Nat) : Int := valF 0 ((s.data.toList.take k).drop f)

theorem hashT_step (s : ByteArray) (k : Nat) (h : k < s.size) : hashT s (k + 1) = (hashT s k || sortI s[k].toNat == 3) := by
  unfold hashT hashed; rw [take_snoc s k h, List.any_append]; simp [sortU]
theorem onlyT_step (s : ByteArray) (f k : Nat) (h : k < s.size) (hf : f ≤ k) : onlyT s f (k + 1) = (onlyT s f k && sortI s[k].toNat == 1) := by
  unfold onlyT
  rw [take_snoc s k h, List.drop_append_of_le_length (by simp; omega), List.all_append]; simp [sortU, Bool.and_assoc]
theorem onlyT_skip (s : ByteArray) (f k : Nat) (hf : k < f) : onlyT s f (k + 1) = onlyT s f k := by
  unfold onlyT
  rw [List.drop_of_length_le (by simp; omega), List.drop_of_length_le (by simp; omega)]
theorem valF_append (x y : List UInt8) : ∀ a, valF a (x ++ y) = valF (valF a x) y := by
  induction x with
  | nil => intro a; rfl
  | cons c r ih => intro a; exact ih _
theorem valT_step (s : ByteArray) (f k : Nat) (h : k < s.size) (hf : f ≤ k) : valT s f (k + 1) = 10 * valT s f k + (s[k].toNat : Int) - 48 := by
  unfold valT
  rw [take_snoc s k h, List.drop_append_of_le_length (by simp; omega), valF_append]; simp only [valF]; omega
theorem onlyT_end (s : ByteArray) (f : Nat) : onlyT s f s.size = digits (s.data.toList.drop f) := by
  unfold onlyT digits
  rw [List.take_of_length_le (by simp)]
  by_cases h : f < s.size
  · simp only [h, decide_true, Bool.true_and]
    rw [show (List.drop f s.data.toList).isEmpty = false from by rw [drop_at s f h]; rfl]; rfl
  · simp only [h, decide_false, Bool.false_and]
    rw [show (List.drop f s.data.toList).isEmpty = true from by rw [drop_end s f (by omega)]; rfl]; rfl
theorem hashT_end (s : ByteArray) : hashT s s.size = hashed s.data.toList := by
  unfold hashT; rw [List.take_of_length_le (by simp)]
theorem valT_end (s : ByteArray) (f : Nat) : valT s f s.size = val (s.data.toList.drop f) := by
  unfold valT val; rw [List.take_of_length_le (by simp)]

theorem sortI_one {b : Int} (h : (sortI b == 1) = true) : 48 ≤ b ∧ b ≤ 57 := by
  unfold sortI at h
  by_cases d : digB b = true
  · simp [digB] at d; omega
  · rw [if_neg d] at h; exfalso; revert h; split <;> (try split) <;> (try split) <;> simp
theorem dig_at (s : ByteArray) (f k : Nat) (hk : k < s.size) (hf : f ≤ k) (h : onlyT s f s.size = true) : 48 ≤ (s[k].toNat : Int) ∧ (s[k].toNat : Int) ≤ 57 := by
  rw [onlyT_end] at h
  simp only [digits, Bool.and_eq_true, List.all_eq_true] at h
  apply sortI_one
  apply h.2
  rw [List.mem_iff_getElem?]
  exact ⟨k - f, by rw [List.getElem?_drop, show f + (k - f) = k from by omega, List.getElem?_eq_getElem (by simpa using hk)]; rfl⟩
def p10 (n : Nat) : Int := 10 ^ n
theorem p10_succ (n : Nat) : p10 (n + 1) = 10 * p10 n := by unfold p10; rw [Int.pow_succ]; omega
theorem p10_le : ∀ {n m : Nat}, n ≤ m → p10 n ≤ p10 m
  | n, 0, h => by rw [show n = 0 from by omega]; exact Int.le_refl _
  | n, m + 1, h => by
    rcases Nat.lt_or_eq_of_le h with g | g
    · have := p10_le (n := n) (m := m) (by omega)
      have h0 : 0 < p10 m := by unfold p10; exact Int.pow_pos (by omega)
      rw [p10_succ]; omega
    · rw [g]; exact Int.le_refl _
theorem valT_bd (s : ByteArray) (f : Nat) (h : onlyT s f s.size = true) : ∀ k, f ≤ k → k ≤ s.size → 0 ≤ valT s f k ∧ valT s f k < p10 (k - f)
  | 0, hf, _ => by rw [show f = 0 from by omega]; simp [valT, valF, p10]
  | k + 1, hf, hk => by
    rcases Nat.lt_or_eq_of_le hf with g | g
    · have ih := valT_bd s f h k (by omega) (by omega)
      have hd := dig_at s f k (by omega) (by omega) h
      rw [valT_step s f k (by omega) (by omega), show k + 1 - f = (k - f) + 1 from by omega, p10_succ]
      omega
    · unfold valT; rw [← g, List.drop_of_length_le (by simp; omega)]; simp [valF, p10]
theorem valT_bd17 (s : ByteArray) (f k : Nat) (h : onlyT s f s.size = true) (hf : f ≤ k) (hk : k < s.size) (h18 : s.size - f ≤ 18) : 0 ≤ valT s f k ∧ valT s f k < 100000000000000000 := by
  have h1 := valT_bd s f h k hf (by omega)
  have h2 := p10_le (n := k - f) (m := 17) (by omega)
  have : p10 17 = 100000000000000000 := by decide
  omega
theorem valT_bd18 (s : ByteArray) (f : Nat) (h : onlyT s f s.size = true) (hf : f ≤ s.size) (h18 : s.size - f ≤ 18) : 0 ≤ valT s f s.size ∧ valT s f s.size < 1000000000000000000 := by
  have h1 := valT_bd s f h s.size hf (by omega)
  have h2 := p10_le (n := s.size - f) (m := 18) (by omega)
  have : p10 18 = 1000000000000000000 := by decide
  omega

/-- What a call of token comes to. -/
def TokPost (s : ByteArray) (e : Ending) : Prop := ∃ cs : Array Value, (∃ k m b p, cs = rcells k m b p) ∧ e = .returned (.tuple #[.agg cs, .bool (tokD s.data.toList).isSome]) ∧ ∀ d, tokD s.data.toList = some d → atomR d = some cs

theorem first_at (s : ByteArray) (h0 : 0 < s.size) : s.data.toList = s[0] :: s.data.toList.drop 1 := by
  have := drop_at s 0 h0; simpa using this
theorem body_of (s : ByteArray) (h0 : 0 < s.size) (f : Nat) (hf : f ≤ 1) (hm : ((s[0].toNat : Int) == 45) = decide (f = 1)) : body s.data.toList = s.data.toList.drop f ∧ minus s.data.toList = decide (f = 1) := by
  have e : minus s.data.toList = decide (f = 1) := by
    rw [first_at s h0, ← hm]; simp only [minus]
    rw [Bool.eq_iff_iff]; simp; omega
  refine ⟨?_, e⟩
  unfold body; rw [e]
  by_cases h : f = 1
  · subst h; simp
  · rw [show f = 0 from by omega]; simp
theorem tok_ne (s : ByteArray) (x : List UInt8) (h : (s.toList == x) = false) : ¬ s.data.toList = x := by
  rw [ByteArray.toList_eq] at h; simpa using h
theorem tok_eq (s : ByteArray) (x : List UInt8) (h : (s.toList == x) = true) : s.data.toList = x := by
  rw [ByteArray.toList_eq] at h; simpa using h
theorem tokD_num (s : ByteArray) (h0 : 0 < s.size) (f : Nat) (hf : f ≤ 1) (t1 : (s.toList == [35, 116]) = false) (t2 : (s.toList == [35, 102]) = false) (hm : ((s[0].toNat : Int) == 45) = decide (f = 1))
    (h : onlyT s f s.size = true) : tokD s.data.toList = if 18 < s.size - f then none else some (num (if f = 1 then - valT s f s.size else valT s f s.size)) := by
  obtain ⟨b1, b2⟩ := body_of s h0 f hf hm
  rw [onlyT_end] at h
  unfold tokD
  rw [if_neg (tok_ne s _ t1), if_neg (tok_ne s _ t2), b1, b2, if_pos h, valT_end]
  simp
theorem tokD_sym (s : ByteArray) (h0 : 0 < s.size) (f : Nat) (hf : f ≤ 1) (t1 : (s.toList == [35, 116]) = false) (t2 : (s.toList == [35, 102]) = false) (hm : ((s[0].toNat : Int) == 45) = decide (f = 1))
    (h : onlyT s f s.size = false) : tokD s.data.toList = if sortI s[0].toNat == 1 || hashT s s.size then none else some (sym s.data.toList) := by
  obtain ⟨b1, b2⟩ := body_of s h0 f hf hm
  rw [onlyT_end] at h
  unfold tokD
  rw [if_neg (tok_ne s _ t1), if_neg (tok_ne s _ t2), b1, if_neg (by simp [h]), hashT_end, show first1 s.data.toList = (sortI s[0].toNat == 1) from by rw [first_at s h0]; rfl]

theorem post_num (s : ByteArray) (h0 : 0 < s.size) (f : Nat) (hf : f ≤ 1) (t1 : (s.toList == [35, 116]) = false) (t2 : (s.toList == [35, 102]) = false) (hm : ((s[0].toNat : Int) == 45) = decide (f = 1))
    (h : onlyT s f s.size = true) (h18 : ¬ 18 < s.size - f) (n : Int) (hn : n = if f = 1 then - valT s f s.size else valT s f s.size) :
    TokPost s (.returned (.tuple #[.agg (rcells 1 n emptyB none), .bool true])) := by
  have e := tokD_num s h0 f hf t1 t2 hm h
  rw [if_neg h18, ← hn] at e
  refine ⟨_, ⟨_, _, _, _, rfl⟩, by rw [e]; rfl, fun d hd => ?_⟩
  rw [e] at hd; cases hd; rfl
theorem post_long (s : ByteArray) (h0 : 0 < s.size) (f : Nat) (hf : f ≤ 1) (t1 : (s.toList == [35, 116]) = false) (t2 : (s.toList == [35, 102]) = false) (hm : ((s[0].toNat : Int) == 45) = decide (f = 1))
    (h : onlyT s f s.size = true) (h18 : 18 < s.size - f) :
    TokPost s (.returned (.tuple #[.agg (rcells 0 0 emptyB none), .bool false])) := by
  have e := tokD_num s h0 f hf t1 t2 hm h
  rw [if_pos h18] at e
  exact ⟨_, ⟨_, _, _, _, rfl⟩, by rw [e]; rfl, fun d hd => by rw [e] at hd; cases hd⟩
theorem post_sym (s : ByteArray) (h0 : 0 < s.size) (f : Nat) (hf : f ≤ 1) (t1 : (s.toList == [35, 116]) = false) (t2 : (s.toList == [35, 102]) = false) (hm : ((s[0].toNat : Int) == 45) = decide (f = 1))
    (h : onlyT s f s.size = false) (b : Bool) (hb : b = !(sortI s[0].toNat == 1 || hashT s s.size)) :
    TokPost s (.returned (.tuple #[.agg (rcells 3 0 s none), .bool b])) := by
  have e := tokD_sym s h0 f hf t1 t2 hm h
  refine ⟨rcells 3 0 s none, ⟨_, _, _, _, rfl⟩, ?_, fun d hd => ?_⟩
  · rw [e, hb]; cases (sortI s[0].toNat == 1 || hashT s s.size) <;> rfl
  · rw [e] at hd
    split at hd
    · cases hd
    · cases hd; rfl
theorem post_true (s : ByteArray) (t1 : (s.toList == [35, 116]) = true) : TokPost s (.returned (.tuple #[.agg (rcells 2 1 emptyB none), .bool true])) := by
  have e := tok_eq s _ t1
  exact ⟨_, ⟨_, _, _, _, rfl⟩, by rw [e]; rfl, fun d hd => by rw [e] at hd; cases hd; rfl⟩
theorem post_false (s : ByteArray) (t1 : (s.toList == [35, 102]) = true) : TokPost s (.returned (.tuple #[.agg (rcells 2 0 emptyB none), .bool true])) := by
  have e := tok_eq s _ t1
  exact ⟨_, ⟨_, _, _, _, rfl⟩, by rw [e]; rfl, fun d hd => by rw [e] at hd; cases hd; rfl⟩

set_option maxHeartbeats 1000000 in
theorem token_true (s : ByteArray) (w : World) (t1 : (s.toList == [35, 116]) = true) :
    Calls Tryz.prog 108 #[.string s] w fun e w' => TokPost s e ∧ Below w.heap.size w w' := by
  go_enter Tryz.func108, Tryz.ntmps108
  go_wp2
  exact bodyPost_ret (v := .tuple #[.agg (rcells 2 1 emptyB none), .bool true]) (by simp [results, Tryz.results108, go_sem, rcells, emptyB]) rfl ⟨post_true s t1, (Below.refl _ _).alloc (Nat.le_refl _) _⟩
set_option maxHeartbeats 1000000 in
theorem token_false (s : ByteArray) (w : World) (t1 : (s.toList == [35, 116]) = false) (t2 : (s.toList == [35, 102]) = true) :
    Calls Tryz.prog 108 #[.string s] w fun e w' => TokPost s e ∧ Below w.heap.size w w' := by
  go_enter Tryz.func108, Tryz.ntmps108
  go_wp2
  exact bodyPost_ret (v := .tuple #[.agg (rcells 2 0 emptyB none), .bool true]) (by simp [results, Tryz.results108, go_sem, rcells, emptyB]) rfl ⟨post_false s t2, (Below.refl _ _).alloc (Nat.le_refl _) _⟩

theorem hash_t {h x : Bool} (g : h = true) : Value.bool true = Value.bool (h || x) := by rw [g]; rfl
theorem hash_f {h x : Bool} (g : ¬ h = true) : Value.bool x = Value.bool (h || x) := by rw [Bool.eq_false_iff.2 g]; rfl
theorem only_f {o : Bool} {n : Int} (g : (n != 1) = true) : Value.bool false = Value.bool (o && n == 1) := by
  rw [show (n == 1) = false from by simpa using g]; simp
theorem only_t {o : Bool} {n : Int} (g : (n != 1) = false) : Value.bool o = Value.bool (o && n == 1) := by
  rw [show (n == 1) = true from by simpa using g]; simp
theorem only_0 (s : ByteArray) (f : Nat) (h : f < s.size) : Value.bool true = Value.bool (onlyT s f 0) := by simp [onlyT, h]
theorem only_1 (s : ByteArray) : Value.bool (decide ((1 : Int) < s.size)) = Value.bool (onlyT s 1 0) := by
  simp only [onlyT, List.take_zero, List.drop_nil, List.all_nil, Bool.and_true]
  congr 1; rw [decide_eq_decide]; omega

set_option maxHeartbeats 2000000 in
theorem token_f0 (s : ByteArray) (w : World) (h0 : 0 < s.size) (hs : s.size ≤ 1000) (t1 : (s.toList == [35, 116]) = false) (t2 : (s.toList == [35, 102]) = false) (hm : ((s[0].toNat : Int) == 45) = decide (0 = 1)) :
    Calls Tryz.prog 108 #[.string s] w fun e w' => TokPost s e ∧ Below w.heap.size w w' := by
  have PN := post_num s h0 0 (by decide) t1 t2 hm
  have PL := post_long s h0 0 (by decide) t1 t2 hm
  have PS := post_sym s h0 0 (by decide) t1 t2 hm
  have HPN := hide PN
  have HPL := hide PL
  have HPS := hide PS
  clear PN PL PS
  simp only [decide_true, decide_false, Nat.zero_ne_one] at hm
  go_enter Tryz.func108, Tryz.ntmps108
  go_wp2
  go_loop [5, 6, 8] (fun o h i => ∃ k : Nat, k ≤ s.size ∧ i = .int .i64 k ∧ h = .bool (hashT s k) ∧ o = .bool (onlyT s 0 k)) (fun _ _ i => s.size - (intOf i).toNat)
  case atStart => exact ⟨0, Nat.zero_le _, rfl, rfl, by first | exact only_0 s _ h0 | exact only_1 s⟩
  case round =>
    obtain ⟨k, hk, rfl, rfl, rfl⟩ := hrel
    by_cases hlt : k < s.size
    · have H1 := hide (hashT_step s k hlt)
      have H2 := hide (onlyT_step s 0 k hlt)
      have H3 := hide (onlyT_skip s 0 k)
      by_cases hfk : 0 ≤ k
      · go_wp2_with (go_at_call 107; refine (sort_any _ _).mono ?_; rintro e w' ⟨rfl, rfl⟩)
        all_goals
          go_round
          case rel => exact ⟨k + 1, by omega, by go_num, by rw [H1.out]; first | exact hash_t (by assumption) | exact hash_f (by assumption), by rw [H2.out hfk]; first | exact only_f (by assumption) | exact only_t (by assumption)⟩
          case measure => simp [intOf]; omega
      · have hfk' : k < 0 := by omega
        go_wp2_with (go_at_call 107; refine (sort_any _ _).mono ?_; rintro e w' ⟨rfl, rfl⟩)
        all_goals
          go_round
          case rel => exact ⟨k + 1, by omega, by go_num, by rw [H1.out]; first | exact hash_t (by assumption) | exact hash_f (by assumption), by rw [H3.out hfk']⟩
          case measure => simp [intOf]; omega
    · have hk : k = s.size := by omega
      subst hk
      go_wp2_with (go_at_call 107; refine (sort_any _ _).mono ?_; rintro e w' ⟨rfl, rfl⟩)
      · have ho : onlyT s 0 s.size = true := by assumption
        refine bodyPost_ret (v := .tuple #[.agg (rcells 0 0 emptyB none), .bool false]) (by simp [results, Tryz.results108, go_sem, emptyB, rcells]) rfl ⟨HPL.out ho (by omega), (Below.refl _ _).alloc (Nat.le_refl _) _⟩
      · have ho : onlyT s 0 s.size = true := by assumption
        have h18 : s.size - 0 ≤ 18 := by omega
        have hfs : 0 ≤ s.size := by omega
        have HO := hide ho
        go_loop [7, 10] (fun n i => ∃ k : Nat, 0 ≤ k ∧ k ≤ s.size ∧ i = .int .i64 k ∧ n = .int .i64 (valT s 0 k)) (fun _ i => s.size - (intOf i).toNat)
        case atStart => exact ⟨0, by omega, by omega, rfl, by simp [valT, valF]⟩
        case round =>
          obtain ⟨k, hfk, hk, rfl, rfl⟩ := hrel
          by_cases hlt : k < s.size
          · have hv := valT_bd17 s 0 k HO.out hfk hlt h18
            have hd := dig_at s 0 k hlt hfk HO.out
            have HS := hide (valT_step s 0 k hlt hfk)
            obtain ⟨hv1, hv2⟩ := hv
            obtain ⟨hd1, hd2⟩ := hd
            go_wp2
            go_round
            case rel => exact ⟨k + 1, by omega, by omega, by go_num, by rw [HS.out]⟩
            case measure => simp [intOf]; omega
          · have hk : k = s.size := by omega
            subst hk
            have hv := valT_bd18 s 0 HO.out hfs h18
            obtain ⟨hv1, hv2⟩ := hv
            go_wp2
            first
              | exact bodyPost_ret (v := .tuple #[.agg (rcells 1 (valT s 0 s.size) emptyB none), .bool true]) (by simp [results, Tryz.results108, go_sem, rcells, emptyB]) rfl ⟨HPN.out HO.out (by omega) _ rfl, (Below.refl _ _).alloc (Nat.le_refl _) _⟩
              | exact bodyPost_ret (v := .tuple #[.agg (rcells 1 (-(valT s 0 s.size)) emptyB none), .bool true]) (by simp [results, Tryz.results108, go_sem, rcells, emptyB]) rfl ⟨HPN.out HO.out (by omega) _ rfl, (Below.refl _ _).alloc (Nat.le_refl _) _⟩
      · have ho : onlyT s 0 s.size = false := by assumption
        have h1 : sortI s[0].toNat = 1 := by assumption
        refine bodyPost_ret (v := .tuple #[.agg (rcells 3 0 s none), .bool false]) (by simp [results, Tryz.results108, go_sem, rcells]) rfl ⟨HPS.out ho _ (by rw [h1]; rfl), (Below.refl _ _).alloc (Nat.le_refl _) _⟩
      · have ho : onlyT s 0 s.size = false := by assumption
        refine bodyPost_ret (v := .tuple #[.agg (rcells 3 0 s none), .bool (sortI s[0].toNat != 1 && !hashT s s.size)]) (by simp [results, Tryz.results108, go_sem, rcells]) rfl ⟨HPS.out ho _ (by rw [Bool.not_or]; rfl), (Below.refl _ _).alloc (Nat.le_refl _) _⟩
set_option maxHeartbeats 2000000 in
theorem token_f1 (s : ByteArray) (w : World) (h0 : 0 < s.size) (hs : s.size ≤ 1000) (t1 : (s.toList == [35, 116]) = false) (t2 : (s.toList == [35, 102]) = false) (hm : ((s[0].toNat : Int) == 45) = decide (1 = 1)) :
    Calls Tryz.prog 108 #[.string s] w fun e w' => TokPost s e ∧ Below w.heap.size w w' := by
  have PN := post_num s h0 1 (by decide) t1 t2 hm
  have PL := post_long s h0 1 (by decide) t1 t2 hm
  have PS := post_sym s h0 1 (by decide) t1 t2 hm
  have HPN := hide PN
  have HPL := hide PL
  have HPS := hide PS
  clear PN PL PS
  simp only [decide_true, decide_false, Nat.zero_ne_one] at hm
  go_enter Tryz.func108, Tryz.ntmps108
  go_wp2
  go_loop [5, 6, 8] (fun o h i => ∃ k : Nat, k ≤ s.size ∧ i = .int .i64 k ∧ h = .bool (hashT s k) ∧ o = .bool (onlyT s 1 k)) (fun _ _ i => s.size - (intOf i).toNat)
  case atStart => exact ⟨0, Nat.zero_le _, rfl, rfl, by first | exact only_0 s _ h0 | exact only_1 s⟩
  case round =>
    obtain ⟨k, hk, rfl, rfl, rfl⟩ := hrel
    by_cases hlt : k < s.size
    · have H1 := hide (hashT_step s k hlt)
      have H2 := hide (onlyT_step s 1 k hlt)
      have H3 := hide (onlyT_skip s 1 k)
      by_cases hfk : 1 ≤ k
      · go_wp2_with (go_at_call 107; refine (sort_any _ _).mono ?_; rintro e w' ⟨rfl, rfl⟩)
        all_goals
          go_round
          case rel => exact ⟨k + 1, by omega, by go_num, by rw [H1.out]; first | exact hash_t (by assumption) | exact hash_f (by assumption), by rw [H2.out hfk]; first | exact only_f (by assumption) | exact only_t (by assumption)⟩
          case measure => simp [intOf]; omega
      · have hfk' : k < 1 := by omega
        go_wp2_with (go_at_call 107; refine (sort_any _ _).mono ?_; rintro e w' ⟨rfl, rfl⟩)
        all_goals
          go_round
          case rel => exact ⟨k + 1, by omega, by go_num, by rw [H1.out]; first | exact hash_t (by assumption) | exact hash_f (by assumption), by rw [H3.out hfk']⟩
          case measure => simp [intOf]; omega
    · have hk : k = s.size := by omega
      subst hk
      go_wp2_with (go_at_call 107; refine (sort_any _ _).mono ?_; rintro e w' ⟨rfl, rfl⟩)
      · have ho : onlyT s 1 s.size = true := by assumption
        refine bodyPost_ret (v := .tuple #[.agg (rcells 0 0 emptyB none), .bool false]) (by simp [results, Tryz.results108, go_sem, emptyB, rcells]) rfl ⟨HPL.out ho (by omega), (Below.refl _ _).alloc (Nat.le_refl _) _⟩
      · have ho : onlyT s 1 s.size = true := by assumption
        have h18 : s.size - 1 ≤ 18 := by omega
        have hfs : 1 ≤ s.size := by omega
        have HO := hide ho
        go_loop [7, 10] (fun n i => ∃ k : Nat, 1 ≤ k ∧ k ≤ s.size ∧ i = .int .i64 k ∧ n = .int .i64 (valT s 1 k)) (fun _ i => s.size - (intOf i).toNat)
        case atStart => exact ⟨1, by omega, by omega, rfl, by simp [valT, valF]⟩
        case round =>
          obtain ⟨k, hfk, hk, rfl, rfl⟩ := hrel
          by_cases hlt : k < s.size
          · have hv := valT_bd17 s 1 k HO.out hfk hlt h18
            have hd := dig_at s 1 k hlt hfk HO.out
            have HS := hide (valT_step s 1 k hlt hfk)
            obtain ⟨hv1, hv2⟩ := hv
            obtain ⟨hd1, hd2⟩ := hd
            go_wp2
            go_round
            case rel => exact ⟨k + 1, by omega, by omega, by go_num, by rw [HS.out]⟩
            case measure => simp [intOf]; omega
          · have hk : k = s.size := by omega
            subst hk
            have hv := valT_bd18 s 1 HO.out hfs h18
            obtain ⟨hv1, hv2⟩ := hv
            go_wp2
            first
              | exact bodyPost_ret (v := .tuple #[.agg (rcells 1 (valT s 1 s.size) emptyB none), .bool true]) (by simp [results, Tryz.results108, go_sem, rcells, emptyB]) rfl ⟨HPN.out HO.out (by omega) _ rfl, (Below.refl _ _).alloc (Nat.le_refl _) _⟩
              | exact bodyPost_ret (v := .tuple #[.agg (rcells 1 (-(valT s 1 s.size)) emptyB none), .bool true]) (by simp [results, Tryz.results108, go_sem, rcells, emptyB]) rfl ⟨HPN.out HO.out (by omega) _ rfl, (Below.refl _ _).alloc (Nat.le_refl _) _⟩
      · have ho : onlyT s 1 s.size = false := by assumption
        have h1 : sortI s[0].toNat = 1 := by assumption
        refine bodyPost_ret (v := .tuple #[.agg (rcells 3 0 s none), .bool false]) (by simp [results, Tryz.results108, go_sem, rcells]) rfl ⟨HPS.out ho _ (by rw [h1]; rfl), (Below.refl _ _).alloc (Nat.le_refl _) _⟩
      · have ho : onlyT s 1 s.size = false := by assumption
        refine bodyPost_ret (v := .tuple #[.agg (rcells 3 0 s none), .bool (sortI s[0].toNat != 1 && !hashT s s.size)]) (by simp [results, Tryz.results108, go_sem, rcells]) rfl ⟨HPS.out ho _ (by rw [Bool.not_or]; rfl), (Below.refl _ _).alloc (Nat.le_refl _) _⟩

theorem token_any (s : ByteArray) (w : World) (h0 : 0 < s.size) (hs : s.size ≤ 1000) :
    Calls Tryz.prog 108 #[.string s] w fun e w' => TokPost s e ∧ Below w.heap.size w w' := by
  cases t1 : (s.toList == [35, 116]) with
  | true => exact token_true s w t1
  | false =>
    cases t2 : (s.toList == [35, 102]) with
    | true => exact token_false s w t1 t2
    | false =>
      cases hm : ((s[0].toNat : Int) == 45) with
      | false => exact token_f0 s w h0 hs t1 t2 hm
      | true => exact token_f1 s w h0 hs t1 t2 hm
end Go.Proofs.YtlobegpjenabaaaGreatDoor

/- The first procedures are made: their closures. -/
namespace Go.Proofs.YtlobegpjenabaaaGreatDoor
open Go.RowKit
set_option linter.unusedSimpArgs false
set_option linter.unusedVariables false

/-- A closure of a method and its machine is made: two boxes. -/
def BoxW (w : World) (M f : Nat) (T : TypeId) : World := (w.alloc (.cells #[.pointer (some ⟨M, 0, none⟩)] 73)).alloc (.cells #[.func (.func f) #[.pointer (some ⟨M, 0, none⟩)] #[]] T)
set_option maxRecDepth 100000 in
set_option maxHeartbeats 1000000 in
theorem ofInts_raw (w : World) (M f : Nat) : Calls Tryz.prog 159 #[.pointer (some ⟨M, 0, none⟩), .func (.func f) #[.pointer (some ⟨M, 0, none⟩)] #[]] w (RetW (.func (.func 211) #[] #[.pointer (some ⟨w.heap.size, 0, none⟩), .pointer (some ⟨w.heap.size + 1, 0, none⟩)]) (BoxW w M f 285)) := by
  have hmf : ∀ (fn : Fn) (first cap : Array Value) (w : World), (Instr.makeFunc fn first cap).run Tryz.prog w = .ok (.func fn first cap) w := fun _ _ _ _ => rfl
  go_enter Tryz.func159, Tryz.ntmps159
  go_wp2
  go_ret
  exact ⟨rfl, rfl⟩
set_option maxRecDepth 100000 in
set_option maxHeartbeats 1000000 in
theorem ofTwo_raw (w : World) (M f : Nat) : Calls Tryz.prog 165 #[.pointer (some ⟨M, 0, none⟩), .func (.func f) #[.pointer (some ⟨M, 0, none⟩)] #[]] w (RetW (.func (.func 213) #[] #[.pointer (some ⟨w.heap.size, 0, none⟩), .pointer (some ⟨w.heap.size + 1, 0, none⟩)]) (BoxW w M f 287)) := by
  have hmf : ∀ (fn : Fn) (first cap : Array Value) (w : World), (Instr.makeFunc fn first cap).run Tryz.prog w = .ok (.func fn first cap) w := fun _ _ _ _ => rfl
  go_enter Tryz.func165, Tryz.ntmps165
  go_wp2
  go_ret
  exact ⟨rfl, rfl⟩
set_option maxRecDepth 100000 in
set_option maxHeartbeats 1000000 in
theorem ofPair_raw (w : World) (M f : Nat) : Calls Tryz.prog 167 #[.pointer (some ⟨M, 0, none⟩), .func (.func f) #[.pointer (some ⟨M, 0, none⟩)] #[]] w (RetW (.func (.func 214) #[] #[.pointer (some ⟨w.heap.size, 0, none⟩), .pointer (some ⟨w.heap.size + 1, 0, none⟩)]) (BoxW w M f 289)) := by
  have hmf : ∀ (fn : Fn) (first cap : Array Value) (w : World), (Instr.makeFunc fn first cap).run Tryz.prog w = .ok (.func fn first cap) w := fun _ _ _ _ => rfl
  go_enter Tryz.func167, Tryz.ntmps167
  go_wp2
  go_ret
  exact ⟨rfl, rfl⟩
set_option maxRecDepth 100000 in
set_option maxHeartbeats 1000000 in
theorem ofOne_raw (w : World) (M f : Nat) : Calls Tryz.prog 170 #[.pointer (some ⟨M, 0, none⟩), .func (.func f) #[.pointer (some ⟨M, 0, none⟩)] #[]] w (RetW (.func (.func 215) #[] #[.pointer (some ⟨w.heap.size, 0, none⟩), .pointer (some ⟨w.heap.size + 1, 0, none⟩)]) (BoxW w M f 291)) := by
  have hmf : ∀ (fn : Fn) (first cap : Array Value) (w : World), (Instr.makeFunc fn first cap).run Tryz.prog w = .ok (.func fn first cap) w := fun _ _ _ _ => rfl
  go_enter Tryz.func170, Tryz.ntmps170
  go_wp2
  go_ret
  exact ⟨rfl, rfl⟩
end Go.Proofs.YtlobegpjenabaaaGreatDoor

/- Values of the document's answer in memory. -/
namespace Go.Proofs.YtlobegpjenabaaaGreatDoor
open Go.RowKit
set_option linter.unusedSimpArgs false
set_option linter.unusedVariables false

/-- All blocks that were there, but for those of S, are as they were. -/
structure Upd (S : Nat → Prop) (w w' : World) : Prop where
  os : w'.os = w.os
  tape : w'.tape = w.tape
  output : w'.output = w.output
  size : w.heap.size ≤ w'.heap.size
  block : ∀ k, k < w.heap.size → ¬ S k → w'.heap[k]? = w.heap[k]?
theorem Upd.refl (S : Nat → Prop) (w : World) : Upd S w w := ⟨rfl, rfl, rfl, Nat.le_refl _, fun _ _ _ => rfl⟩
theorem Upd.trans {S S' : Nat → Prop} {w w1 w2 : World} (h : Upd S w w1) (k : Upd S' w1 w2) (hs : ∀ j, j < w.heap.size → S' j → S j) : Upd S w w2 :=
  ⟨k.os.trans h.os, k.tape.trans h.tape, k.output.trans h.output, Nat.le_trans h.size k.size, fun j hj hn => (k.block j (Nat.lt_of_lt_of_le hj h.size) (fun x => hn (hs j hj x))).trans (h.block j hj hn)⟩
theorem Upd.of_below {w w' : World} (S : Nat → Prop) (h : Below w.heap.size w w') : Upd S w w' := ⟨h.os, h.tape, h.output, h.size, fun k hk _ => h.block k hk⟩
theorem Upd.below {S : Nat → Prop} {w w' : World} {B : Nat} (h : Upd S w w') (hB : B ≤ w.heap.size) (hS : ∀ k, S k → B ≤ k) : Below B w w' :=
  ⟨h.os, h.tape, h.output, h.size, fun k hk => h.block k (by omega) (fun x => by have := hS k x; omega)⟩
theorem Upd.mono {S S' : Nat → Prop} {w w' : World} (h : Upd S w w') (hs : ∀ j, S j → S' j) : Upd S' w w' := ⟨h.os, h.tape, h.output, h.size, fun k hk hn => h.block k hk (fun x => hn (hs k x))⟩
theorem Upd.grown {S : Nat → Prop} {w w1 w' : World} {row : Option Nat} (h : Upd S w w1) (g : w1.grownBy w' row) (hr : ∀ k, row = some k → k < w.heap.size → S k) : Upd S w w' :=
  h.trans (S' := fun k => row = some k) ⟨g.os, g.tape, g.output, g.size, fun k hk hn => g.block k hk (fun e => hn e.symm)⟩ (fun j hj hx => hr j hx hj)
theorem Upd.alloc {S : Nat → Prop} {w w1 : World} (h : Upd S w w1) (o : Obj) : Upd S w (w1.alloc o) :=
  h.trans (S' := fun _ => False) ⟨rfl, rfl, rfl, by simp, fun k hk _ => Below.heap_alloc _ _ _ hk⟩ (fun _ _ x => x.elim)
theorem Upd.setCell {S : Nat → Prop} {w w1 : World} (h : Upd S w w1) (p : Addr) (u : Value) (hp : p.block < w.heap.size → S p.block) : Upd S w (w1.setCell p u) :=
  h.trans (S' := fun k => k = p.block) ⟨rfl, rfl, rfl, by simp [World.setCell], fun k hk hn => Below.heap_setCell _ _ _ _ hn⟩ (fun j hj x => by subst x; exact hp hj)
theorem Upd.drew {S : Nat → Prop} {w w1 : World} (h : Upd S w w1) : Upd S w w1.drew := ⟨h.os, h.tape, h.output, h.size, h.block⟩
theorem Upd.drewN {S : Nat → Prop} {w w1 : World} (h : Upd S w w1) (n : Nat) : Upd S w (w1.drewN n) := ⟨h.os, h.tape, h.output, h.size, h.block⟩

/-- The pairs that were there are as they were. -/
def Keep (T : TypeId) (w w' : World) : Prop := ∀ (b : Nat) (c : Array Value), w.heap[b]? = some (Obj.cells c T (0, 0)) → w'.heap[b]? = some (Obj.cells c T (0, 0))
theorem lt_of_some {w : World} {b : Nat} {o : Obj} (h : w.heap[b]? = some o) : b < w.heap.size := by
  rcases Nat.lt_or_ge b w.heap.size with hlt | hge
  · exact hlt
  · rw [Array.getElem?_eq_none hge] at h; cases h
theorem Keep.of_upd {T : TypeId} {S : Nat → Prop} {w w' : World} (h : Upd S w w') (hs : ∀ k c, S k → ¬ w.heap[k]? = some (Obj.cells c T (0, 0))) : Keep T w w' := by
  intro b c hb
  rw [h.block b (lt_of_some hb) (fun x => hs b c x hb)]; exact hb
theorem Keep.of_below {T : TypeId} {w w' : World} (h : Below w.heap.size w w') : Keep T w w' := by
  intro b c hb
  rw [h.block b (lt_of_some hb)]; exact hb
theorem Keep.trans {T : TypeId} {a b c : World} (h : Keep T a b) (k : Keep T b c) : Keep T a c := fun x y z => k x y (h x y z)
theorem Keep.refl {T : TypeId} (a : World) : Keep T a a := fun x y z => z

/-- A list's cells; R says of an element's cells what it is. -/
def Chain (w : World) (R : Array Value → D → Prop) : Array Value → List D → Prop
  | cs, [] => cs = rcells 4 0 emptyB none
  | cs, d :: r => ∃ b c1 c2, cs = rcells 5 0 emptyB (some ⟨b, 0, none⟩) ∧ w.heap[b]? = some (Obj.cells (c1 ++ c2) 162 (0, 0)) ∧ c1.size = 5 ∧ c2.size = 5 ∧ R c1 d ∧ Chain w R c2 r
/-- The cells of a datum that is less than so deep. -/
def RV (w : World) : Nat → Array Value → D → Prop
  | 0, _, _ => False
  | n + 1, cs, .agg l => l.length ≤ 1000 ∧ Chain w (RV w n) cs l
  | _ + 1, cs, d => atomR d = some cs
def RVs (w : World) (n : Nat) : List (Array Value) → List D → Prop
  | [], [] => True
  | c :: cs, d :: ds => c.size = 5 ∧ RV w n c d ∧ RVs w n cs ds
  | _, _ => False

theorem Chain.keep {w w' : World} {R R' : Array Value → D → Prop} (k : Keep 162 w w') (hR : ∀ c d, R c d → R' c d) : ∀ (l : List D) (cs : Array Value), Chain w R cs l → Chain w' R' cs l
  | [], cs, h => h
  | d :: r, cs, ⟨b, c1, c2, e, hb, h1, h2, hd, hr⟩ => ⟨b, c1, c2, e, k _ _ hb, h1, h2, hR _ _ hd, Chain.keep k hR r c2 hr⟩
theorem RV.keep {w w' : World} (k : Keep 162 w w') : ∀ (n : Nat) (cs : Array Value) (d : D), RV w n cs d → RV w' n cs d
  | 0, _, _, h => h.elim
  | n + 1, cs, .agg l, h => ⟨h.1, Chain.keep k (RV.keep k n) l cs h.2⟩
  | n + 1, cs, .lit _, h => h
  | n + 1, cs, .nil, h => h
  | n + 1, cs, .ptr _, h => h
  | n + 1, cs, .slice _ _, h => h
  | n + 1, cs, .iface _ _, h => h
  | n + 1, cs, .map _, h => h
  | n + 1, cs, .held _, h => h
theorem RVs.keep {w w' : World} (k : Keep 162 w w') (n : Nat) : ∀ (cs : List (Array Value)) (ds : List D), RVs w n cs ds → RVs w' n cs ds
  | [], [], h => h
  | c :: cs, d :: ds, h => ⟨h.1, RV.keep k n c d h.2.1, RVs.keep k n cs ds h.2.2⟩
  | [], _ :: _, h => h.elim
  | _ :: _, [], h => h.elim
theorem Chain.mono {w : World} {R R' : Array Value → D → Prop} (hR : ∀ c d, R c d → R' c d) (l : List D) (cs : Array Value) (h : Chain w R cs l) : Chain w R' cs l := Chain.keep (Keep.refl w) hR l cs h
theorem RV.up {w : World} : ∀ (n : Nat) (cs : Array Value) (d : D), RV w n cs d → RV w (n + 1) cs d
  | 0, _, _, h => h.elim
  | n + 1, cs, .agg l, h => ⟨h.1, Chain.mono (RV.up n) l cs h.2⟩
  | n + 1, cs, .lit _, h => h
  | n + 1, cs, .nil, h => h
  | n + 1, cs, .ptr _, h => h
  | n + 1, cs, .slice _ _, h => h
  | n + 1, cs, .iface _ _, h => h
  | n + 1, cs, .map _, h => h
  | n + 1, cs, .held _, h => h
theorem RVs.length {w : World} {n : Nat} : ∀ {cs : List (Array Value)} {ds : List D}, RVs w n cs ds → cs.length = ds.length
  | [], [], _ => rfl
  | c :: cs, d :: ds, h => by simp [RVs.length h.2.2]
  | [], _ :: _, h => h.elim
  | _ :: _, [], h => h.elim
theorem RVs.append {w : World} {n : Nat} : ∀ {cs : List (Array Value)} {ds : List D} {cs' : List (Array Value)} {ds' : List D}, RVs w n cs ds → RVs w n cs' ds' → RVs w n (cs ++ cs') (ds ++ ds')
  | [], [], _, _, _, h' => h'
  | c :: cs, d :: ds, _, _, h, h' => ⟨h.1, h.2.1, RVs.append h.2.2 h'⟩
  | [], _ :: _, _, _, h, _ => h.elim
  | _ :: _, [], _, _, h, _ => h.elim
/-- The cells of a row of values, one behind the other. -/
def flat (css : List (Array Value)) : List Value := css.flatMap Array.toList
theorem flat_length {w : World} {n : Nat} : ∀ {cs : List (Array Value)} {ds : List D}, RVs w n cs ds → (flat cs).length = cs.length * 5
  | [], [], _ => rfl
  | c :: cs, d :: ds, h => by
    have := flat_length h.2.2
    simp only [flat, List.flatMap_cons, List.length_append, List.length_cons] at *
    have h5 : c.toList.length = 5 := by simp [h.1]
    omega
  | [], _ :: _, h => h.elim
  | _ :: _, [], h => h.elim
/-- The k-th value of a row. -/
theorem flat_at {w : World} {n : Nat} : ∀ {cs : List (Array Value)} {ds : List D} (h : RVs w n cs ds) (k : Nat) (hk : k < ds.length), ∃ c, cs[k]? = some c ∧ c.size = 5 ∧ RV w n c ds[k] ∧ ∀ j, j < 5 → (flat cs)[k * 5 + j]? = c[j]?
  | [], [], _, k, hk => absurd hk (by simp)
  | c :: cs, d :: ds, h, 0, _ => ⟨c, rfl, h.1, h.2.1, fun j hj => by
      simp only [flat, List.flatMap_cons]
      rw [List.getElem?_append_left (by simp [h.1]; omega)]; simp⟩
  | c :: cs, d :: ds, h, k + 1, hk => by
    obtain ⟨c', h1, h2, h3, h4⟩ := flat_at h.2.2 k (by simpa using hk)
    refine ⟨c', by simpa using h1, h2, h3, fun j hj => ?_⟩
    rw [← h4 j hj]
    simp only [flat, List.flatMap_cons]
    rw [List.getElem?_append_right (by simp [h.1]; omega)]
    congr 1; simp [h.1]; omega
  | [], _ :: _, h, _, _ => h.elim
  | _ :: _, [], h, _, _ => h.elim
theorem cells5 (c : Array Value) (h : c.size = 5) : ∃ a0 a1 a2 a3 a4, c = #[a0, a1, a2, a3, a4] := by
  rcases c with ⟨l⟩
  simp at h
  match l, h with
  | [a, b, c, d, e], _ => exact ⟨a, b, c, d, e, rfl⟩
/-- Every value's cells are five, each one cell. -/
theorem RV.form {w : World} : ∀ (n : Nat) (cs : Array Value) (d : D), RV w n cs d → ∃ k m s p, cs = rcells k m s p
  | 0, _, _, h => h.elim
  | n + 1, cs, .agg [], h => ⟨_, _, _, _, h.2⟩
  | n + 1, cs, .agg (_ :: _), h => by obtain ⟨b, c1, c2, e, _⟩ := h.2; exact ⟨_, _, _, _, e⟩
  | n + 1, cs, .lit (.int k m), h => by
    cases k <;> first | (cases h; done) | (have h : some _ = some cs := h; cases h; exact ⟨_, _, _, _, rfl⟩)
  | n + 1, cs, .lit (.bool _), h => by have h : some _ = some cs := h; cases h; exact ⟨_, _, _, _, rfl⟩
  | n + 1, cs, .lit (.string _), h => by have h : some _ = some cs := h; cases h; exact ⟨_, _, _, _, rfl⟩
  | n + 1, cs, .lit (.float _ _), h => by cases h
  | n + 1, cs, .lit .nil, h => by cases h
  | n + 1, cs, .nil, h => by have h : some _ = some cs := h; cases h; exact ⟨_, _, _, _, rfl⟩
  | n + 1, cs, .ptr _, h => by cases h
  | n + 1, cs, .slice _ _, h => by cases h
  | n + 1, cs, .iface _ _, h => by cases h
  | n + 1, cs, .map _, h => by cases h
  | n + 1, cs, .held _, h => by cases h

end Go.Proofs.YtlobegpjenabaaaGreatDoor
