/- read: take. -/
import Derived.Test.YtlobegpjenabaaaGreatDoorL04
import Derived.RangeFuncNested
import Derived.RangeFuncBound
import Derived.RangeFuncCalls
import Derived.RangeFuncLeaves
import Derived.Shelf.Abstract
import Derived.Shelf.RegionOpen
import Derived.OwnWalkIn
import Derived.TacticsInMore
import Derived.LoopNIn
import Derived.LoopIn
namespace Go.Proofs.YtlobegpjenabaaaGreatDoor
open Go.RowKit
set_option linter.unusedSimpArgs false
set_option linter.unusedVariables false

/-- A list's end. -/
def closeS (forms : List D) : List (Bool × List D) → Sum Int (List D × List (Bool × List D))
  | (false, ds) :: os => .inr (addS forms os (lst ds))
  | _ => .inl 2
/-- One piece more. -/
def takeS (forms : List D) (opens : List (Bool × List D)) (t : List UInt8) : Sum Int (List D × List (Bool × List D)) :=
  if kindP t = 1 then (if 20 ≤ opens.length then .inl 3 else .inr (forms, (false, []) :: opens))
  else if kindP t = 3 then (if 20 ≤ opens.length then .inl 3 else .inr (forms, (true, []) :: opens))
  else if kindP t = 2 then closeS forms opens
  else match tokD t with
    | some d => if kindP t = 0 then .inl 2 else .inr (addS forms opens d)
    | none => .inl 2

/-- What a call of take comes to. -/
def TakePost (w : World) (R B : Nat) (r : Sum Int (List D × List (Bool × List D))) (e : Ending) (w' : World) : Prop :=
  UpdR R B w w' ∧ (∀ er, r = .inl er → e = .returned (.int .i64 er)) ∧ (∀ st, r = .inr st → e = .returned (.int .i64 0) ∧ ∃ fv ov fs its, RdOk w' R B st.1 st.2 fv ov fs its)

/-- Of a piece that begins as no token does, or as one does. -/
theorem kindP_tok (t : List UInt8) (h1 : ¬ kindP t = 1) (h2 : ¬ kindP t = 2) (h3 : ¬ kindP t = 3) (h7 : ¬ kindP t = 7) : kindP t = 0 ∨ kindP t = tokK t := by
  by_cases a : (t.headD 0).toNat = 40
  · exact absurd (by unfold kindP; rw [if_pos a]) h1
  by_cases b : (t.headD 0).toNat = 41
  · exact absurd (by unfold kindP; rw [if_neg a, if_pos b]) h2
  by_cases c : (t.headD 0).toNat = 39
  · exact absurd (by unfold kindP; rw [if_neg a, if_neg b, if_pos c]) h3
  by_cases d : (t.headD 0).toNat = 32 ∨ (t.headD 0).toNat = 10 ∨ (t.headD 0).toNat = 59
  · exact absurd (by unfold kindP; rw [if_neg a, if_neg b, if_neg c, if_pos d]) h7
  unfold kindP
  rw [if_neg a, if_neg b, if_neg c, if_neg d]
  by_cases e : sortU (t.headD 0) = 0
  · rw [if_pos e]; exact Or.inl rfl
  · rw [if_neg e]; exact Or.inr rfl

set_option maxRecDepth 100000 in
set_option maxHeartbeats 1000000 in
theorem take_any (w : World) (R B : Nat) (forms : List D) (opens : List (Bool × List D)) (fv ov : Value) (fs : List Value) (its : List (Value × List Value)) (s : ByteArray) (p : Int) (h : RdOk w R B forms opens fv ov fs its) (hB : B ≤ w.heap.size) (h20 : opens.length ≤ 20) (hcnt : cntS forms opens ≤ 1000) (hs : s.size ≤ 1000) (h7 : ¬ kindP s.data.toList = 7) :
    Calls Tryz.prog 54 #[.pointer (some ⟨R, 0, none⟩), .agg #[.int .i64 (kindP s.data.toList), .int .i64 p, .string s]] w (TakePost w R B (takeS forms opens s.data.toList)) := by
  have hb0 : ∀ k, Below w.heap.size w (w.alloc (.cells #[.int .i64 k, .int .i64 p, .string s] 128)) := fun k => (Below.refl _ _).alloc (Nat.le_refl _) _
  have HOK := hide (fun k => h.below (hb0 k))
  have HB0 := hide hb0
  have hB1 : ∀ k, B ≤ (w.alloc (.cells #[.int .i64 k, .int .i64 p, .string s] 128)).heap.size := fun k => by simp; omega
  have HB1 := hide hB1
  clear h hb0 hB1
  by_cases hk1 : kindP s.data.toList = 1
  · have HT : Hid (takeS forms opens s.data.toList = if 20 ≤ opens.length then .inl 3 else .inr (forms, (false, []) :: opens)) := by
      show _ = _; unfold takeS; rw [hk1]; rfl
    rw [hk1]
    generalize takeS forms opens s.data.toList = r at *
    clear hk1 h7
    go_enter Tryz.func54, Tryz.ntmps54
    go_wp2_with fail
    refine (begin_any _ R B forms opens fv ov fs its false (HOK.out 1) (HB1.out 1) h20).mono ?_
    rintro e w1 ⟨h1, h2⟩
    by_cases hl : 20 ≤ opens.length
    · obtain ⟨rfl, rfl⟩ := h1 hl
      have HR : Hid (r = .inl 3) := by show _ = _; rw [HT.out, if_pos hl]
      clear h1 h2
      go_wp2
      go_ret
      exact ⟨UpdR.of_below (HB0.out 1), (fun er h => by rw [HR.out] at h; cases h; rfl), (fun st h => by rw [HR.out] at h; cases h)⟩
    · obtain ⟨rfl, ov', its', hok', hup'⟩ := h2 (by omega)
      have HR : Hid (r = .inr (forms, (false, []) :: opens)) := by show _ = _; rw [HT.out, if_neg hl]
      have HOK' := hide hok'
      have HUP' := hide hup'
      clear h1 h2 hok' hup'
      go_wp2
      go_ret
      exact ⟨(UpdR.of_below (HB0.out 1)).trans HUP'.out, (fun er h => by rw [HR.out] at h; cases h), (fun st h => by rw [HR.out] at h; cases h; exact ⟨rfl, fv, ov', fs, its', HOK'.out⟩)⟩
  by_cases hk3 : kindP s.data.toList = 3
  · have HT : Hid (takeS forms opens s.data.toList = if 20 ≤ opens.length then .inl 3 else .inr (forms, (true, []) :: opens)) := by
      show _ = _; unfold takeS; rw [hk3]; rfl
    rw [hk3]
    generalize takeS forms opens s.data.toList = r at *
    clear hk3 h7
    go_enter Tryz.func54, Tryz.ntmps54
    go_wp2_with fail
    refine (begin_any _ R B forms opens fv ov fs its true (HOK.out 3) (HB1.out 3) h20).mono ?_
    rintro e w1 ⟨h1, h2⟩
    by_cases hl : 20 ≤ opens.length
    · obtain ⟨rfl, rfl⟩ := h1 hl
      have HR : Hid (r = .inl 3) := by show _ = _; rw [HT.out, if_pos hl]
      clear h1 h2
      go_wp2
      go_ret
      exact ⟨UpdR.of_below (HB0.out 3), (fun er h => by rw [HR.out] at h; cases h; rfl), (fun st h => by rw [HR.out] at h; cases h)⟩
    · obtain ⟨rfl, ov', its', hok', hup'⟩ := h2 (by omega)
      have HR : Hid (r = .inr (forms, (true, []) :: opens)) := by show _ = _; rw [HT.out, if_neg hl]
      have HOK' := hide hok'
      have HUP' := hide hup'
      clear h1 h2 hok' hup'
      go_wp2
      go_ret
      exact ⟨(UpdR.of_below (HB0.out 3)).trans HUP'.out, (fun er h => by rw [HR.out] at h; cases h), (fun st h => by rw [HR.out] at h; cases h; exact ⟨rfl, fv, ov', fs, its', HOK'.out⟩)⟩
  by_cases hk2 : kindP s.data.toList = 2
  · have HT : Hid (takeS forms opens s.data.toList = closeS forms opens) := by
      show _ = _; unfold takeS; rw [hk2]; rfl
    rw [hk2]
    generalize takeS forms opens s.data.toList = r at *
    clear hk2 h7 hk1 hk3
    go_enter Tryz.func54, Tryz.ntmps54
    go_wp2_with fail
    refine (close_any _ R B forms opens fv ov fs its (HOK.out 2) (HB1.out 2) h20 hcnt).mono ?_
    rintro e w1 ⟨h1, h2⟩
    match opens with
    | [] =>
      obtain ⟨rfl, hb⟩ := h1 (Or.inl rfl)
      have HR : Hid (r = .inl 2) := HT.out
      have HBB := hide hb
      clear h1 h2 hb
      go_wp2
      go_ret
      exact ⟨(UpdR.of_below (HB0.out 2)).trans (UpdR.of_below HBB.out), (fun er h => by rw [HR.out] at h; cases h; rfl), (fun st h => by rw [HR.out] at h; cases h)⟩
    | (true, ds) :: os =>
      obtain ⟨rfl, hb⟩ := h1 (Or.inr ⟨_, _, rfl⟩)
      have HR : Hid (r = .inl 2) := HT.out
      have HBB := hide hb
      clear h1 h2 hb
      go_wp2
      go_ret
      exact ⟨(UpdR.of_below (HB0.out 2)).trans (UpdR.of_below HBB.out), (fun er h => by rw [HR.out] at h; cases h; rfl), (fun st h => by rw [HR.out] at h; cases h)⟩
    | (false, ds) :: os =>
      obtain ⟨rfl, fv', ov', fs', its', hok', hup'⟩ := h2 ds os rfl
      have HR : Hid (r = .inr (addS forms os (lst ds))) := HT.out
      have HOK' := hide hok'
      have HUP' := hide hup'
      clear h1 h2 hok' hup'
      go_wp2
      go_ret
      exact ⟨(UpdR.of_below (HB0.out 2)).trans HUP'.out, (fun er h => by rw [HR.out] at h; cases h), (fun st h => by rw [HR.out] at h; cases h; exact ⟨rfl, fv', ov', fs', its', HOK'.out⟩)⟩
  have hkt := kindP_tok s.data.toList hk1 hk2 hk3 h7
  have HT : Hid (takeS forms opens s.data.toList = match tokD s.data.toList with | some d => if kindP s.data.toList = 0 then .inl 2 else .inr (addS forms opens d) | none => .inl 2) := by
    show _ = _; unfold takeS; rw [if_neg hk1, if_neg hk3, if_neg hk2]
  generalize hr : takeS forms opens s.data.toList = r at *
  by_cases hk0 : kindP s.data.toList = 0
  · have HR : Hid (r = .inl 2) := by
      show _ = _; rw [HT.out]
      cases tokD s.data.toList with
      | none => rfl
      | some d => simp only [hk0, if_true]
    rw [hk0]
    clear hk0 hk1 hk2 hk3 h7 hkt hr
    go_enter Tryz.func54, Tryz.ntmps54
    go_wp2
    go_ret
    exact ⟨UpdR.of_below (HB0.out 0), (fun er h => by rw [HR.out] at h; cases h; rfl), (fun st h => by rw [HR.out] at h; cases h)⟩
  · have hkk : kindP s.data.toList = tokK s.data.toList := by rcases hkt with h | h; exact absurd h hk0; exact h
    cases htd : tokD s.data.toList with
    | none =>
      rcases tokK_cases s.data.toList with ⟨h1, h2⟩ | ⟨h1, b, h2, h3⟩ | ⟨h1, h2, h3, h4⟩ | ⟨h1, h2⟩
      · exact absurd (hkk.trans h1) hk0
      · rw [h3] at htd; cases htd
      · rw [h4] at htd; cases htd
      · rw [h2] at htd; cases htd
    | some d =>
      have HR : Hid (r = .inr (addS forms opens d)) := by show _ = _; rw [HT.out, htd]; simp only [hk0, if_false]
      have HTV := hide (fun w' => tokenValue_any s p hs d htd w')
      obtain ⟨k, hk⟩ : ∃ k, k = kindP s.data.toList := ⟨_, rfl⟩
      rw [hkk] at hk
      have b1 : (k == 1) = false := by rw [beq_eq_false_iff_ne, hk, ← hkk]; exact hk1
      have b2 : (k == 2) = false := by rw [beq_eq_false_iff_ne, hk, ← hkk]; exact hk2
      have b3 : (k == 3) = false := by rw [beq_eq_false_iff_ne, hk, ← hkk]; exact hk3
      have b0 : (k == 0) = false := by rw [beq_eq_false_iff_ne, hk, ← hkk]; exact hk0
      rw [hkk, ← hk]
      have HTV : Hid (∀ w', Calls Tryz.prog 87 #[.agg #[.int .i64 k, .int .i64 p, .string s]] w' fun e w'' => ∃ u, e = .returned u ∧ atomI d = some u ∧ Below w'.heap.size w' w'') := by rw [hk]; exact HTV.out
      clear hk0 hk1 hk2 hk3 h7 hkt hkk hk htd hr HT
      go_enter Tryz.func54, Tryz.ntmps54
      go_wp2_with fail
      refine (HTV.out _).mono ?_
      rintro e w1 ⟨u, rfl, hat, hb1⟩
      have hbw : Below w.heap.size w w1 := (HB0.out k).trans (hb1.mono (by simp))
      have hiv : IV w1 (21 - opens.length) u d := by
        rw [show 21 - opens.length = (20 - opens.length) + 1 from by omega]
        cases d with
        | agg l => cases hat
        | _ => exact hat
      have hok1 := (HOK.out k).below hb1
      obtain ⟨t1, x1, rfl⟩ := IV.form _ _ _ hiv
      have HIV := hide hiv
      have HOK1 := hide hok1
      have HBW := hide hbw
      have hB2 : B ≤ w1.heap.size := by have := hbw.size; omega
      clear hiv hok1 hbw hb1 hat
      go_wp2_with fail
      refine (add_any w1 R B forms opens fv ov fs its d (.iface t1 x1) HOK1.out hB2 h20 hcnt HIV.out _ rfl).mono ?_
      rintro e w2 ⟨rfl, fv', ov', fs', its', hok2, hU2⟩
      have HOK2 := hide hok2
      have HU2 := hide hU2
      clear hok2 hU2
      go_wp2
      go_ret
      exact ⟨(UpdR.of_below HBW.out).trans HU2.out, (fun er h => by rw [HR.out] at h; cases h), (fun st h => by rw [HR.out] at h; cases h; exact ⟨rfl, fv', ov', fs', its', HOK2.out⟩)⟩
end Go.Proofs.YtlobegpjenabaaaGreatDoor

/- read: the pieces of a text, told by an iterator. -/
namespace Go.Proofs.YtlobegpjenabaaaGreatDoor
open Go.RowKit Go.Shelf
set_option linter.unusedSimpArgs false
set_option linter.unusedVariables false
attribute [local go_sem] Oper.semAt_some

/-- A piece: its bytes, its place. -/
abbrev Pc := { x : ByteArray × Nat // x.1.size ≤ 1000 ∧ ¬ kindP x.1.data.toList = 7 }
def encP (x : Pc) : Array Value := #[.agg #[.int .i64 (kindP x.1.1.data.toList), .int .i64 x.1.2, .string x.1.1]]
theorem encP_of (x : Pc) (kd : Int) (h : kindP x.1.1.data.toList = kd) : encP x = #[.agg #[.int .i64 kd, .int .i64 x.1.2, .string x.1.1]] := by unfold encP; rw [h]
/-- The bytes of the piece, or gap, that stands at place i. -/
def pieceAt (s : ByteArray) (i : Nat) : ByteArray := s.extract i (i + lenP (s.data.toList.drop i))
theorem pieceAt_size (s : ByteArray) (hs : s.size ≤ 1000) (i : Nat) : (pieceAt s i).size ≤ 1000 := by
  unfold pieceAt; simp; omega
/-- The pieces from place i on. -/
def pcsB (s : ByteArray) (hs : s.size ≤ 1000) : Nat → Nat → List Pc
  | 0, _ => []
  | n + 1, i => if i < s.size then (if h : kindP (pieceAt s i).data.toList = 7 then pcsB s hs n (i + lenP (s.data.toList.drop i)) else ⟨(pieceAt s i, i), pieceAt_size s hs i, h⟩ :: pcsB s hs n (i + lenP (s.data.toList.drop i))) else []

theorem cmN_le : ∀ l : List UInt8, cmN l ≤ l.length
  | [] => by simp [cmN]
  | c :: r => by have := cmN_le r; simp only [cmN, List.length_cons]; split <;> omega
theorem lenP_bd (c : UInt8) (r : List UInt8) : 0 < lenP (c :: r) ∧ lenP (c :: r) ≤ (c :: r).length := by
  unfold lenP
  simp only [List.headD_cons]
  by_cases h1 : (sortU c != 0) = true
  · have h2 := tokN_le (c :: r)
    simp only [h1, if_true]
    refine ⟨?_, h2⟩
    simp only [tokN]; rw [if_neg (by simpa using h1)]; omega
  · simp only [h1]
    by_cases h2 : c.toNat = 59
    · have h3 := cmN_le (c :: r)
      simp only [h2, if_true]
      refine ⟨?_, h3⟩
      unfold cmN; rw [if_neg (show ¬ c.toNat = 10 from by omega)]; exact Nat.succ_pos _
    · simp [h2]
theorem lenP_pos (s : ByteArray) (k : Nat) (h : k < s.size) : 0 < lenP (s.data.toList.drop k) ∧ k + lenP (s.data.toList.drop k) ≤ s.size := by
  have := lenP_bd s[k] (s.data.toList.drop (k + 1))
  rw [← drop_at s k h] at this
  simp at this
  omega
theorem ext_end (s : ByteArray) (k : Nat) : (s.extract k s.size).data.toList = s.data.toList.drop k := by
  rw [Lib.extract_data, List.take_of_length_le (by simp)]

/-- What a round keeps: the text's own variable, and what the library keeps. -/
def KpT (T : Nat) (W W' : World) : Prop := W'.heap[T]? = W.heap[T]? ∧ W'.heap[3]? = W.heap[3]? ∧ W.heap.size ≤ W'.heap.size
theorem KpT.refl (T : Nat) (W : World) : KpT T W W := ⟨rfl, rfl, Nat.le_refl _⟩
theorem KpT.trans {T : Nat} {A B C : World} (h : KpT T A B) (k : KpT T B C) : KpT T A C := ⟨k.1.trans h.1, k.2.1.trans h.2.1, Nat.le_trans h.2.2 k.2.2⟩
theorem KpT.alloc {T : Nat} {A B : World} (h : KpT T A B) (hT : T < B.heap.size) (h2 : 3 < B.heap.size) (o : Obj) : KpT T A (B.alloc o).drew :=
  ⟨(Below.heap_alloc B o T hT).trans h.1, (Below.heap_alloc B o 3 h2).trans h.2.1, Nat.le_trans h.2.2 (by simp [World.drew])⟩
theorem KpT.cell {T : Nat} {A B : World} (h : KpT T A B) : B.cell? ⟨T, 0, none⟩ = A.cell? ⟨T, 0, none⟩ := World.cell?_of_block (w := A) h.1
theorem KpT.max {T : Nat} {A B : World} (h : KpT T A B) (hm : MaxOk A) : MaxOk B := by
  obtain ⟨m, hm⟩ := hm
  exact ⟨m, by rw [World.cell?_of_block (w := A) (a := ⟨3, 0, none⟩) h.2.1]; exact hm⟩

set_option maxRecDepth 100000 in
set_option maxHeartbeats 2000000 in
theorem pieces1_in (n : Nat) (hn : 1 ≤ n) (l T : Nat) (s : ByteArray) (hs : s.size ≤ 1000) (J Jx : List Pc → World → Prop) (W : World) (hJa : AbidesFrom W.heap.size J)
    (hY : ∀ pre x W1, J pre W1 → pre.length < s.size + 1 → YieldAt Fence.wide (n - 1) Tryz.prog l (encP x) W1 fun e W' =>
      (e = .returned (.bool true) ∧ J (pre ++ [x]) W' ∧ KpT T W1 W') ∨ (e = .returned (.bool false) ∧ Jx (pre ++ [x]) W'))
    (hTl : T < W.heap.size) (hc : W.cell? ⟨T, 0, none⟩ = some (.string s)) (hm : MaxOk W) (h0 : J [] W) :
    CallsIn Fence.wide n Tryz.prog 81 #[.func (.yield l) #[] #[], .pointer (some ⟨T, 0, none⟩)] W fun e W' => (∃ v, e = .returned v) ∧
      ((∃ xs, xs = pcsB s hs (s.size + 1) 0 ∧ J xs W') ∨ (∃ pre, (∃ rest, pre ++ rest = pcsB s hs (s.size + 1) 0) ∧ Jx pre W')) := by
  refine callsIn_of_wp Tryz.func81 rfl trivial ?_ rfl
  simp only [Tryz.ntmps81, List.size_toArray, List.length_cons, List.length_nil, Nat.reduceAdd, Nat.reduceSub, Array.replicate_succ, Array.replicate_zero, List.push_toArray, List.append_toArray, List.nil_append, List.cons_append]
  gi_wp2
  gi_loopw [3] (fun i wr => ∃ k : Nat, k ≤ s.size ∧ i = .int .i64 k ∧ ∃ pre m, pre ++ pcsB s hs m k = pcsB s hs (s.size + 1) 0 ∧ s.size - k < m ∧ pre.length ≤ k ∧ J pre wr ∧ KpT T W wr)
    (fun i _ => s.size - (intOf i).toNat)
  case atStart => exact ⟨0, Nat.zero_le _, rfl, [], s.size + 1, rfl, by omega, Nat.le_refl _, h0, KpT.refl _ _⟩
  case round =>
    obtain ⟨k, hk, rfl, pre, m, hpre, hmk, hpl, hJs, hnx⟩ := hrel
    have hcx : wr.cell? ⟨T, 0, none⟩ = some (.string s) := hnx.cell.trans hc
    by_cases hlt : k < s.size
    · have hk1 : (k : Int) ≤ (s.size : Int) := by omega
      have HY := hide hY
      have HN := hide hnx
      have HJ := hide hJs
      clear hY hnx hJs
      have hsz : (s.extract k s.size).size = s.size - k := by simp
      have hlp := lenP_pos s k hlt
      obtain ⟨m2, hm2⟩ : ∃ m2, lenP (s.data.toList.drop k) = m2 := ⟨_, rfl⟩
      have HLEN : Hid (∀ w', Calls Tryz.prog 82 #[.string (s.extract k s.size)] w' fun e w'' => e = .returned (.int .i64 m2) ∧ w'' = w') := by
        intro w'
        have := length_any (s.extract k s.size) (by omega) (by unfold maxLen; omega) w'
        rw [ext_end, hm2] at this
        exact this
      rw [hm2] at hlp
      clear hsz
      have HM2 := hide hm2
      obtain ⟨hm2a, hm2b⟩ := hlp
      obtain ⟨pb, hpb⟩ : ∃ pb, s.extract k (k + m2) = pb := ⟨_, rfl⟩
      have HPA : Hid (pieceAt s k = pb) := by show _ = _; unfold pieceAt; rw [hm2]; exact hpb
      have he : s.extract k ((k : Int) + (m2 : Int)).toNat = pb := by rw [← hpb, show ((k : Int) + (m2 : Int)).toNat = k + m2 from by omega]
      have hpz : pb.size = m2 := by rw [← hpb]; simp; omega
      have hmw : MaxOk wr := HN.out.max hm
      obtain ⟨kd, hkd⟩ : ∃ kd, kindP pb.data.toList = kd := ⟨_, rfl⟩
      have HKIND : Hid (∀ w'', MaxOk w'' → Calls Tryz.prog 83 #[.string pb] w'' fun e w3 => e = .returned (.int .i64 kd) ∧ w3 = w'') := by
        intro w'' hq
        have := kindOf_any pb (by omega) (by omega) w'' hq
        rw [hkd] at this; exact this
      have HKD := hide hkd
      have HMW := hide hmw
      have hpbs : pb.size ≤ 1000 := by omega
      clear hpz hmw hkd hpb hm2
      have i1 : (0 : Int) ≤ (k : Int) := by omega
      have i2 : (k : Int) ≤ (k : Int) + (m2 : Int) := by omega
      have i3 : (k : Int) + (m2 : Int) ≤ (s.size : Int) := by omega
      gi_wp2_with (refine ⟨trivial, ?_⟩; gi_at_call 82; refine (callsIn_wide.2 (HLEN.out _)).mono ?_; rintro e w' ⟨rfl, rfl⟩)
      have nne := World.new_ne w' ⟨T, 0, none⟩ hcx
      refine wpIn_wide.2 ?_
      go_region_held3 (fun wx => wx.cell? ⟨T, 0, none⟩ = some (.string s)) (go_keep) (first | (go_at_call 83; refine (HKIND.out _ (by first | exact HMW.out | exact MaxOk.upd HMW.out (Upd.drew ((Upd.refl (fun _ => False) _).alloc _)) (fun h => h) | exact MaxOk.upd HMW.out (Upd.drew (Upd.refl (fun _ => False) _)) (fun h => h))).mono ?_; rintro e wy ⟨rfl, rfl⟩))
      all_goals clear he
      all_goals
        have hJw : J pre ((w'.alloc (.cells #[.int .i64 kd, .int .i64 k, .string pb] 128)).drew) := hJa pre w' _ none HJ.out ⟨rfl, rfl, rfl, by simp [World.drew], fun j hj _ => Below.heap_alloc w' _ j hj⟩ (fun r e => by cases e)
        have hBw : KpT T W ((w'.alloc (.cells #[.int .i64 kd, .int .i64 k, .string pb] 128)).drew) := HN.out.alloc (Nat.lt_of_lt_of_le hTl HN.out.2.2) HMW.out.lt _
        have q0 : ((w'.alloc (.cells #[.int .i64 kd, .int .i64 k, .string pb] 128)).drew).heap[w'.heap.size]? = some (Obj.cells #[.int .i64 kd, .int .i64 k, .string pb] 128 (0, 0)) := heap_alloc_new w' _
        obtain ⟨m', rfl⟩ : ∃ m', m = m' + 1 := ⟨m - 1, by omega⟩
        by_cases h7 : kd = 7
        · have b7 : (kd != 7) = false := by rw [h7]; rfl
          have HST : Hid (pcsB s hs (m' + 1) k = pcsB s hs m' (k + m2)) := by
            show _ = _
            rw [pcsB, if_pos hlt, dif_pos (by rw [HPA.out, HKD.out]; exact h7), HM2.out]
          have HJW := hide hJw
          have HBW := hide hBw
          clear h7 hJw hBw q0
          gi_wp2
          refine ⟨fun _ h => (by cases h), ?_⟩
          gi_wp2
          go_roundw
          case rel => exact ⟨k + m2, by omega, by go_num, pre, m', by rw [← HST.out]; exact hpre, by omega, by omega, HJW.out, HBW.out⟩
          case measure => simp [intOf]; omega
        · have b7 : (kd != 7) = true := by rw [bne_iff_ne]; exact h7
          have h7' : ¬ kindP pb.data.toList = 7 := by rw [HKD.out]; exact h7
          have HST : Hid (pcsB s hs (m' + 1) k = ⟨(pb, k), hpbs, h7'⟩ :: pcsB s hs m' (k + m2)) := by
            show _ = _
            rw [pcsB, if_pos hlt, dif_neg (by rw [HPA.out, HKD.out]; exact h7), HM2.out]
            congr 1
            exact Subtype.ext (by show (pieceAt s k, k) = (pb, k); rw [HPA.out])
          obtain ⟨fn, tmps, assign, body, hy, hR⟩ := HY.out pre ⟨(pb, k), hpbs, h7'⟩ _ hJw (by omega)
          rw [encP_of _ kd HKD.out] at hy
          dsimp only at hy
          have HRR := hide hR
          have HBW := hide hBw
          clear hJw hBw h7 hR q0
          gi_wp2
          refine HRR.out.mono ?_
          rintro e W3 (⟨rfl, hJ3, hk3⟩ | ⟨rfl, hJx3⟩)
          · have HJ3 := hide hJ3
            have HK3 := hide (HBW.out.trans hk3)
            clear hJ3 hk3 hy
            gi_wp2
            go_roundw
            case rel => exact ⟨k + m2, by omega, by go_num, pre ++ [⟨(pb, k), hpbs, h7'⟩], m', by rw [List.append_assoc, List.singleton_append, ← HST.out]; exact hpre, by omega, by simp; omega, HJ3.out, HK3.out⟩
            case measure => simp [intOf]; omega
          · have HJX := hide hJx3
            clear hJx3 hy
            gi_wp2
            refine bodyPost_ret (results_none rfl _ _ _) rfl ?_
            exact ⟨⟨_, rfl⟩, .inr ⟨_, ⟨pcsB s hs m' (k + m2), by rw [List.append_assoc, List.singleton_append, ← HST.out]; exact hpre⟩, HJX.out⟩⟩
    · have hk0 : k = s.size := by omega
      subst hk0
      obtain ⟨m', rfl⟩ : ∃ m', m = m' + 1 := ⟨m - 1, by omega⟩
      have HST : Hid (pcsB s hs (m' + 1) s.size = []) := by show _ = _; rw [pcsB, if_neg hlt]
      have HJ := hide hJs
      clear hY hnx hJs
      gi_wp2
      go_end0
      exact ⟨⟨_, rfl⟩, .inl ⟨pre, by have := hpre; rw [HST.out, List.append_nil] at this; exact this, HJ.out⟩⟩
end Go.Proofs.YtlobegpjenabaaaGreatDoor
