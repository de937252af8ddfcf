/- latheref: Expression. -/
import Derived.Test.YtlobegpjenabaaaGreatDoorRefBind
namespace Go.Proofs.YtlobegpjenabaaaGreatDoor
open Go.RowKit
set_option linter.unusedSimpArgs false
set_option linter.unusedVariables false

/-- A row without its first k. -/
theorem RVs.drop {w : World} {n : Nat} : ∀ {css : List (Array Value)} {ds : List D} (k : Nat), RVs w n css ds → RVs w n (css.drop k) (ds.drop k)
  | [], [], k, h => by simp [RVs]
  | c :: cs, d :: ds, 0, h => h
  | c :: cs, d :: ds, k + 1, h => RVs.drop k h.2.2
  | [], _ :: _, _, h => h.elim
  | _ :: _, [], _, h => h.elim
theorem flat_drop {w : World} {n : Nat} : ∀ {css : List (Array Value)} {ds : List D} (k : Nat), RVs w n css ds → flat (css.drop k) = (flat css).drop (k * 5)
  | [], [], k, h => by simp [flat]
  | c :: cs, d :: ds, 0, h => by simp
  | c :: cs, d :: ds, k + 1, h => by
    have h5 : c.toList.length = 5 := by simp [h.1]
    rw [List.drop_succ_cons, flat_drop k h.2.2]
    simp only [flat, List.flatMap_cons]
    rw [show (k + 1) * 5 = c.toList.length + k * 5 from by omega, List.drop_append]
    simp
  | [], _ :: _, _, h => h.elim
  | _ :: _, [], _, h => h.elim

/-- Of a row without its first k: how the walk has it. -/
theorem rd_drop {w : World} {n : Nat} {len cap g : Nat} (k : Nat) {css : List (Array Value)} {ds : List D} (hrow : RowRd w (.slice (some ⟨g, 0, none⟩) len cap) css) (hds : RVs w n css ds) (hk : k ≤ ds.length) :
    RowRd w (.slice (some ⟨g, k * 5, none⟩) (ds.length - k) (cap - k)) (css.drop k) := by
  have hl := hds.length
  obtain ⟨a', cap', hv, h1, h2, h3⟩ := hrow
  cases hv
  refine ⟨_, _, by rw [List.length_drop, hl], by rw [List.length_drop]; omega, by omega, fun hp => ?_⟩
  rw [List.length_drop] at hp
  obtain ⟨g', off, ha, hg, hc⟩ := h3 (by omega)
  cases ha
  refine ⟨g, k * 5, rfl, hg, fun j u hj => ?_⟩
  rw [flat_drop k hds, List.getElem?_drop] at hj
  have := hc _ u hj
  rw [Nat.zero_add] at this; exact this

/-- What is known where a list that is not empty is looked at: its row, behind the call of Items. -/
structure InList (w w1 : World) (n : Nat) (ds : List D) (v : Value) (css : List (Array Value)) : Prop where
  row : RowRd w1 v css
  rvs : RVs w1 n css ds
  below : Below w.heap.size w w1
  len : ds.length ≤ 1000
  pos : 0 < ds.length

theorem exprF_list (n : Nat) (l : List D) : exprF (n + 1) (.agg l) =
    if headK l = [113, 117, 111, 116, 101] then decide (l.length = 2)
    else if headK l = [105, 102] then (decide (l.length = 3) || decide (l.length = 4)) && l.tail.all (exprF n)
    else if headK l = [115, 101, 116, 33] then decide (l.length = 3) && varD (l.getD 1 (lst [])) && (l.drop 2).all (exprF n)
    else if headK l = [108, 97, 109, 98, 100, 97] then decide (3 ≤ l.length) && isList (l.getD 1 (num 0)) && varsL [] (itemsD (l.getD 1 (num 0))) && (l.drop 2).all (exprF n)
    else if headK l = [98, 101, 103, 105, 110] then decide (2 ≤ l.length) && l.tail.all (exprF n)
    else if headK l = [100, 101, 102, 105, 110, 101] then
      (if 3 ≤ l.length ∧ 0 < (itemsD (l.getD 1 (num 0))).length
       then varD ((itemsD (l.getD 1 (num 0))).getD 0 (num 0)) && varsL [] (itemsD (l.getD 1 (num 0))).tail && (l.drop 2).all (exprF n)
       else decide (l.length = 3) && varD (l.getD 1 (lst [])) && (l.drop 2).all (exprF n))
    else if headK l = [108, 101, 116] then
      decide (3 ≤ l.length) && isList (l.getD 1 (num 0)) && bindL (exprF n) [] (itemsD (l.getD 1 (num 0))) && varsL [] ((itemsD (l.getD 1 (num 0))).map fun b => (itemsD b).getD 0 (num 0)) && (l.drop 2).all (exprF n)
    else !l.isEmpty && l.all (exprF n) := rfl

theorem headK_cases : ∀ (ds : List D), headK ds = [113, 117, 111, 116, 101] ∨ headK ds = [105, 102] ∨ headK ds = [115, 101, 116, 33] ∨ headK ds = [108, 97, 109, 98, 100, 97] ∨ headK ds = [98, 101, 103, 105, 110] ∨ headK ds = [100, 101, 102, 105, 110, 101] ∨ headK ds = [108, 101, 116] ∨ headK ds = []
  | [] => by simp [headK]
  | .lit (.string s) :: _ => by
    simp only [headK]
    by_cases h : kwB s = true
    · rw [if_pos h]
      simp [kwB, kws] at h
      rcases h with h | h | h | h | h | h | h <;> simp [h]
    · rw [if_neg h]; simp
  | .lit (.int _ _) :: _ => by simp [headK]
  | .lit (.bool _) :: _ => by simp [headK]
  | .lit (.float _ _) :: _ => by simp [headK]
  | .lit .nil :: _ => by simp [headK]
  | .nil :: _ => by simp [headK]
  | .ptr _ :: _ => by simp [headK]
  | .slice _ _ :: _ => by simp [headK]
  | .agg _ :: _ => by simp [headK]
  | .iface _ _ :: _ => by simp [headK]
  | .map _ :: _ => by simp [headK]
  | .held _ :: _ => by simp [headK]

theorem beq_decide (n m : Nat) : ((n : Int) == (m : Int)) = decide (n = m) := by
  rw [Bool.eq_iff_iff]; simp; omega
theorem ex_quote (n : Nat) (l : List D) (h : headK l = [113, 117, 111, 116, 101]) : exprF (n + 1) (.agg l) = decide (l.length = 2) := by rw [exprF_list, if_pos h]
theorem ex_if (n : Nat) (l : List D) (h : headK l = [105, 102]) : exprF (n + 1) (.agg l) = ((decide (l.length = 3) || decide (l.length = 4)) && (l.drop 1).all (exprF n)) := by
  rw [exprF_list, if_neg (by rw [h]; decide), if_pos h, List.drop_one]
theorem ex_set (n : Nat) (l : List D) (h : headK l = [115, 101, 116, 33]) : exprF (n + 1) (.agg l) = (decide (l.length = 3) && varD (l.getD 1 (lst [])) && (l.drop 2).all (exprF n)) := by
  rw [exprF_list, if_neg (by rw [h]; decide), if_neg (by rw [h]; decide), if_pos h]
theorem ex_lambda (n : Nat) (l : List D) (h : headK l = [108, 97, 109, 98, 100, 97]) : exprF (n + 1) (.agg l) = (decide (3 ≤ l.length) && isList (l.getD 1 (num 0)) && varsL [] (itemsD (l.getD 1 (num 0))) && (l.drop 2).all (exprF n)) := by
  rw [exprF_list, if_neg (by rw [h]; decide), if_neg (by rw [h]; decide), if_neg (by rw [h]; decide), if_pos h]
theorem ex_begin (n : Nat) (l : List D) (h : headK l = [98, 101, 103, 105, 110]) : exprF (n + 1) (.agg l) = (decide (2 ≤ l.length) && (l.drop 1).all (exprF n)) := by
  rw [exprF_list, if_neg (by rw [h]; decide), if_neg (by rw [h]; decide), if_neg (by rw [h]; decide), if_neg (by rw [h]; decide), if_pos h, List.drop_one]
theorem ex_define (n : Nat) (l : List D) (h : headK l = [100, 101, 102, 105, 110, 101]) : exprF (n + 1) (.agg l) = (if 3 ≤ l.length ∧ 0 < (itemsD (l.getD 1 (num 0))).length
       then varD ((itemsD (l.getD 1 (num 0))).getD 0 (num 0)) && varsL [] (itemsD (l.getD 1 (num 0))).tail && (l.drop 2).all (exprF n)
       else decide (l.length = 3) && varD (l.getD 1 (lst [])) && (l.drop 2).all (exprF n)) := by
  rw [exprF_list, if_neg (by rw [h]; decide), if_neg (by rw [h]; decide), if_neg (by rw [h]; decide), if_neg (by rw [h]; decide), if_neg (by rw [h]; decide), if_pos h]
theorem ex_let (n : Nat) (l : List D) (h : headK l = [108, 101, 116]) : exprF (n + 1) (.agg l) = (decide (3 ≤ l.length) && bindD n (l.getD 1 (num 0)) && (l.drop 2).all (exprF n)) := by
  rw [exprF_list, if_neg (by rw [h]; decide), if_neg (by rw [h]; decide), if_neg (by rw [h]; decide), if_neg (by rw [h]; decide), if_neg (by rw [h]; decide), if_neg (by rw [h]; decide), if_pos h, rbindL_all]
  unfold bindD bName
  simp only [Bool.and_assoc]
theorem ex_app (n : Nat) (l : List D) (h : headK l = []) (hp : 0 < l.length) : exprF (n + 1) (.agg l) = l.all (exprF n) := by
  rw [exprF_list, if_neg (by rw [h]; decide), if_neg (by rw [h]; decide), if_neg (by rw [h]; decide), if_neg (by rw [h]; decide), if_neg (by rw [h]; decide), if_neg (by rw [h]; decide), if_neg (by rw [h]; decide)]
  cases l with
  | nil => simp at hp
  | cons a b => rfl

/-- A value is a pair, or no list, or empty. -/
theorem kind5 {w : World} {n : Nat} {x m : Int} {s : ByteArray} {p : Option Addr} {d : D} (h : RV w n (rcells x m s p) d) :
    ((x == 5) = false ∧ (itemsD d).length = 0) ∨ ((x == 5) = true ∧ ∃ y ys bb c1 c2 n', n = n' + 1 ∧ d = .agg (y :: ys) ∧ p = some ⟨bb, 0, none⟩ ∧ w.heap[bb]? = some (Obj.cells (c1 ++ c2) 162 (0, 0)) ∧ c1.size = 5 ∧ c2.size = 5 ∧ RV w n' c1 y ∧ RV w (n' + 1) c2 (.agg ys)) := by
  cases n with
  | zero => exact h.elim
  | succ n =>
    match d, h with
    | .agg [], h => have h : rcells x m s p = rcells 4 0 emptyB none := h.2; cases h; exact Or.inl ⟨rfl, rfl⟩
    | .agg (y :: ys), h =>
      obtain ⟨hl, b, c1, c2, h, hb, h1, h2, hy, hys⟩ := h
      cases h
      exact Or.inr ⟨rfl, y, ys, b, c1, c2, n, rfl, rfl, rfl, hb, h1, h2, hy, by simp at hl; omega, hys⟩
    | .lit (.int q z), h => cases q <;> first | (cases h; done) | (have h : some _ = some (rcells x m s p) := h; cases h; exact Or.inl ⟨rfl, rfl⟩)
    | .lit (.bool b), h => have h : some _ = some (rcells x m s p) := h; cases h; exact Or.inl ⟨rfl, rfl⟩
    | .lit (.string t), h => have h : some _ = some (rcells x m s p) := h; cases h; exact Or.inl ⟨rfl, rfl⟩
    | .nil, h => have h : some _ = some (rcells x m s p) := h; cases h; exact Or.inl ⟨rfl, rfl⟩

set_option maxRecDepth 100000 in
set_option maxHeartbeats 4000000 in
/-- Expression, of a list that is not empty, up to its keyword. -/
theorem expr_list (n : Nat) (HE : ExprAt n) (ds : List D) (hd : 0 < ds.length) (cs : Array Value) (w : World) (hv : RV w (n + 1) cs (.agg ds)) (r : Bool) (HR : Hid (r = exprF (n + 1) (.agg ds))) :
    Calls Tryz.prog 45 #[.agg cs] w fun e w' => e = .returned (.bool r) ∧ Below w.heap.size w w' := by
  obtain ⟨d0, dr, rfl⟩ : ∃ d0 dr, ds = d0 :: dr := by cases ds with | nil => simp at hd | cons a b => exact ⟨a, b, rfl⟩
  have HV := hide hv
  obtain ⟨hlen, b, c1, c2, rfl, _⟩ := hv
  have HEX := hide HE
  clear HE
  unfold rcells
  go_enter Tryz.func45, Tryz.ntmps45
  go_wp2_with fail
  refine (items_any n (.agg (d0 :: dr)) (rcells 5 0 emptyB (some ⟨b, 0, none⟩)) _ (by exact RV.keep (Keep.of_below ((Below.refl _ _).alloc (Nat.le_refl _) _)) _ _ _ HV.out)).mono ?_
  rintro e w1 ⟨v, css, rfl, hrow, hrvs, hb1⟩
  have hbw : Below w.heap.size w w1 := ((Below.refl _ _).alloc (Nat.le_refl _) _).trans (hb1.mono (by simp))
  have hrvs : RVs w1 n css (d0 :: dr) := hrvs
  generalize (d0 :: dr) = ds at *
  have HB := hide hbw
  have HRow := hide hrow
  have HRv := hide hrvs
  obtain ⟨a, cap, rfl, hc1, hc2, hat⟩ := row_at hrow hrvs
  obtain ⟨g, rfl, hg, x0, q0, t0, r0, hrv0, a0, a1, a2, a3, a4⟩ := hat 0 hd
  have hA0 : w1.cell? ⟨w.heap.size, 0, none⟩ = some (.int .i64 5) := by
    rw [hb1.cell (p := ⟨w.heap.size, 0, none⟩) (by simp)]; exact World.cell?_alloc_at _ _ _ 0 rfl
  have HAT := hide hat
  clear hrow hrvs hat hb1 hbw hrv0 a0 a1 a2 a3 a4
  unfold maxLen at hc2
  go_wp2_with fail
  refine (head_any n css ds _ _ HRow.out.rd HRv.out).mono ?_
  rintro e w' ⟨rfl, rfl⟩
  rcases headK_cases ds with h | h | h | h | h | h | h | h
  all_goals
    have HH := hide h
    rw [h]
    clear h
  · -- quote
    go_wp2
    go_ret
    exact ⟨ret_bool (by rw [HR.out, ex_quote n ds HH.out]; exact beq_decide _ 2), HB.out⟩
  · -- if
    by_cases hL : ds.length = 3 ∨ ds.length = 4
    · have HOR : Hid ((decide (ds.length = 3) || decide (ds.length = 4)) = true) := by show _ = _; simpa using hL
      have h2l : 3 ≤ ds.length := by omega
      have i1 : (1 : Int) ≤ (ds.length : Int) := by omega
      have i2 : (ds.length : Int) ≤ (cap : Int) := by omega
      have i3 : (1 : Int) < (cap : Int) := by omega
      have hLb : ((ds.length : Int) == 3) = true ∨ (((ds.length : Int) == 3) = false ∧ ((ds.length : Int) == 4) = true) := by
        rcases hL with h | h
        · left; rw [beq_iff_eq]; omega
        · right; exact ⟨by rw [beq_eq_false_iff_ne]; omega, by rw [beq_iff_eq]; omega⟩
      clear hL
      rcases hLb with b3 | ⟨b3, b4⟩
      all_goals
        go_wp2_with fail
        refine (all_any n HEX.out (css.drop 1) (ds.drop 1) _ _ (by exact rd_drop 1 HRow.out.rd HRv.out (by omega)) (RVs.drop 1 HRv.out) (by simp; omega)).mono ?_
        rintro e w2 ⟨rfl, hb2⟩
        have HB2 := hide hb2
        clear hb2
        go_wp2
        go_ret
        exact ⟨ret_bool (by rw [HR.out, ex_if n ds HH.out, HOR.out, List.drop_one]; rfl), HB.out.trans (HB2.out.mono HB.out.size)⟩
    · have b3 : ((ds.length : Int) == 3) = false := by rw [beq_eq_false_iff_ne]; omega
      have b4 : ((ds.length : Int) == 4) = false := by rw [beq_eq_false_iff_ne]; omega
      have HF : Hid ((decide (ds.length = 3) || decide (ds.length = 4)) = false) := by show _ = _; simp; omega
      clear hL
      go_wp2
      go_ret
      exact ⟨ret_bool (by rw [HR.out, ex_if n ds HH.out, HF.out]; rfl), HB.out⟩
  · -- set
    by_cases hL : ds.length = 3
    · obtain ⟨g', hgg, _, x1, q1, t1, r1, hrv1, a0, a1, a2, a3, a4⟩ := HAT.out 1 (by omega)
      cases hgg
      have HE1 : Hid (ds.getD 1 (lst []) = ds[1]) := by show _ = _; simp [List.getD_eq_getElem?_getD, hL]
      generalize ds[1] = e1 at *
      simp only [Nat.one_mul] at a0 a1 a2 a3 a4
      have b3 : ((ds.length : Int) == 3) = true := by rw [beq_iff_eq]; omega
      have i1 : (1 : Int) < (ds.length : Int) := by omega
      have i2 : (2 : Int) ≤ (ds.length : Int) := by omega
      have i3 : (2 : Int) < (cap : Int) := by omega
      have HL := hide hL
      have HR1 := hide hrv1
      clear hL hrv1
      go_wp2_with fail
      refine (variable_rv n e1 (rcells x1 q1 t1 r1) _ HR1.out).mono ?_
      rintro e w2 ⟨rfl, hb2⟩
      have HB2 := hide (show Below w.heap.size w w2 from HB.out.trans (hb2.mono HB.out.size))
      have HB2' := hide hb2
      clear hb2
      cases hvd : varD e1 with
      | false =>
        go_wp2
        go_ret
        exact ⟨ret_bool (by rw [HR.out, ex_set n ds HH.out, HE1.out, hvd, Bool.and_false]; rfl), HB2.out⟩
      | true =>
        go_wp2_with fail
        refine (all_any n HEX.out (css.drop 2) (ds.drop 2) _ _ (by exact rd_drop 2 (HRow.out.rd.below HB2'.out) (HRv.out.below HB2'.out) (by omega)) (RVs.drop 2 (HRv.out.below HB2'.out)) (by simp; omega)).mono ?_
        rintro e w3 ⟨rfl, hb3⟩
        have HB3 := hide hb3
        clear hb3
        go_wp2
        go_ret
        exact ⟨ret_bool (by rw [HR.out, ex_set n ds HH.out, HE1.out, hvd, HL.out]; rfl), HB2.out.trans (HB3.out.mono HB2.out.size)⟩
    · have b3 : ((ds.length : Int) == 3) = false := by rw [beq_eq_false_iff_ne]; omega
      have HF : Hid (decide (ds.length = 3) = false) := decide_eq_false hL
      clear hL
      go_wp2
      go_ret
      exact ⟨ret_bool (by rw [HR.out, ex_set n ds HH.out, HF.out]; rfl), HB.out⟩
  · -- lambda
    by_cases hL : 3 ≤ ds.length
    · obtain ⟨g', hgg, _, x1, q1, t1, r1, hrv1, a0, a1, a2, a3, a4⟩ := HAT.out 1 (by omega)
      cases hgg
      have HE1 : Hid (ds.getD 1 (num 0) = ds[1]) := by show _ = _; rw [List.getD_eq_getElem?_getD, List.getElem?_eq_getElem (by omega)]; rfl
      generalize ds[1] = e1 at *
      simp only [Nat.one_mul] at a0 a1 a2 a3 a4
      have i0 : (3 : Int) ≤ (ds.length : Int) := by omega
      have i1 : (1 : Int) < (ds.length : Int) := by omega
      have i2 : (2 : Int) ≤ (ds.length : Int) := by omega
      have i3 : (2 : Int) < (cap : Int) := by omega
      have HL := hide hL
      have HR1 := hide hrv1
      obtain ⟨n', rfl⟩ : ∃ j, n = j + 1 := ⟨n - 1, by have := hrv1.pos; omega⟩
      clear hL hrv1
      go_wp2_with fail
      refine (variables_any n' e1 (rcells x1 q1 t1 r1) _ HR1.out).mono ?_
      rintro e w2 ⟨rfl, hb2⟩
      have HB2 := hide (show Below w.heap.size w w2 from HB.out.trans (hb2.mono HB.out.size))
      have HB2' := hide hb2
      clear hb2
      cases hvd : (isList e1 && varsL [] (itemsD e1)) with
      | false =>
        go_wp2
        go_ret
        exact ⟨ret_bool (by rw [HR.out, ex_lambda _ ds HH.out, HE1.out, Bool.and_assoc (decide (3 ≤ ds.length)), hvd, Bool.and_false]; rfl), HB2.out⟩
      | true =>
        go_wp2_with fail
        refine (all_any _ HEX.out (css.drop 2) (ds.drop 2) _ _ (by exact rd_drop 2 (HRow.out.rd.below HB2'.out) (HRv.out.below HB2'.out) (by omega)) (RVs.drop 2 (HRv.out.below HB2'.out)) (by simp; omega)).mono ?_
        rintro e w3 ⟨rfl, hb3⟩
        have HB3 := hide hb3
        clear hb3
        go_wp2
        go_ret
        exact ⟨ret_bool (by rw [HR.out, ex_lambda _ ds HH.out, HE1.out, Bool.and_assoc (decide (3 ≤ ds.length)), hvd, decide_eq_true HL.out]; rfl), HB2.out.trans (HB3.out.mono HB2.out.size)⟩
    · have i2 : ¬ (3 : Int) ≤ (ds.length : Int) := by omega
      have HF : Hid (decide (3 ≤ ds.length) = false) := decide_eq_false hL
      clear hL
      go_wp2
      go_ret
      exact ⟨ret_bool (by rw [HR.out, ex_lambda n ds HH.out, HF.out]; rfl), HB.out⟩
  · -- begin
    by_cases hL : 2 ≤ ds.length
    · have i1 : (1 : Int) ≤ (ds.length : Int) := by omega
      have i2 : (2 : Int) ≤ (ds.length : Int) := by omega
      have i3 : (1 : Int) < (cap : Int) := by omega
      have HL := hide hL
      clear hL
      go_wp2_with fail
      refine (all_any n HEX.out (css.drop 1) (ds.drop 1) _ _ (by exact rd_drop 1 HRow.out.rd HRv.out (by omega)) (RVs.drop 1 HRv.out) (by simp; omega)).mono ?_
      rintro e w2 ⟨rfl, hb2⟩
      have HB2 := hide hb2
      clear hb2
      go_wp2
      go_ret
      exact ⟨ret_bool (by rw [HR.out, ex_begin n ds HH.out, decide_eq_true HL.out, List.drop_one]; rfl), HB.out.trans (HB2.out.mono HB.out.size)⟩
    · have i2 : ¬ (2 : Int) ≤ (ds.length : Int) := by omega
      have HF : Hid (decide (2 ≤ ds.length) = false) := decide_eq_false hL
      clear hL
      go_wp2
      go_ret
      exact ⟨ret_bool (by rw [HR.out, ex_begin n ds HH.out, HF.out]; rfl), HB.out⟩
  · -- define
    by_cases hL : 3 ≤ ds.length
    · obtain ⟨g', hgg, _, x1, q1, t1, r1, hrv1, a0, a1, a2, a3, a4⟩ := HAT.out 1 (by omega)
      cases hgg
      have HE1 : Hid (ds.getD 1 (num 0) = ds[1]) := by show _ = _; rw [List.getD_eq_getElem?_getD, List.getElem?_eq_getElem (by omega)]; rfl
      have HE2 : Hid (ds.getD 1 (lst []) = ds[1]) := by show _ = _; rw [List.getD_eq_getElem?_getD, List.getElem?_eq_getElem (by omega)]; rfl
      generalize ds[1] = e1 at *
      simp only [Nat.one_mul] at a0 a1 a2 a3 a4
      have i0 : (3 : Int) ≤ (ds.length : Int) := by omega
      have i1 : (1 : Int) < (ds.length : Int) := by omega
      have i2 : (2 : Int) ≤ (ds.length : Int) := by omega
      have i3 : (2 : Int) < (cap : Int) := by omega
      rcases kind5 hrv1 with ⟨hx, hit⟩ | ⟨hx, y, ys, bb, c1, c2, n', hn', rfl, hr1, hBB, h15, h25, hry, hrys⟩
      · have HX : Hid ((itemsD e1).length = 0) := hit
        have HL := hide hL
        have HR1 := hide hrv1
        have HDF : Hid (exprF (n + 1) (.agg ds) = (decide (ds.length = 3) && varD e1 && (ds.drop 2).all (exprF n))) := by
          show _ = _
          rw [ex_define n ds HH.out, HE1.out, if_neg (by rw [hit]; omega), HE2.out]
        clear hrv1 hit
        by_cases hL3 : ds.length = 3
        · have b3 : ((ds.length : Int) == 3) = true := by rw [beq_iff_eq]; omega
          have HL3 := hide hL3
          clear hL3 hL
          go_wp2_with fail
          refine (variable_rv n e1 (rcells x1 q1 t1 r1) _ HR1.out).mono ?_
          rintro e w2 ⟨rfl, hb2⟩
          have HB2 := hide (show Below w.heap.size w w2 from HB.out.trans (hb2.mono HB.out.size))
          have HB2' := hide hb2
          clear hb2
          cases hvd : varD e1 with
          | false =>
            go_wp2
            go_ret
            exact ⟨ret_bool (by rw [HR.out, HDF.out, hvd, Bool.and_false]; rfl), HB2.out⟩
          | true =>
            go_wp2_with fail
            refine (all_any n HEX.out (css.drop 2) (ds.drop 2) _ _ (by exact rd_drop 2 (HRow.out.rd.below HB2'.out) (HRv.out.below HB2'.out) (by omega)) (RVs.drop 2 (HRv.out.below HB2'.out)) (by simp; omega)).mono ?_
            rintro e w3 ⟨rfl, hb3⟩
            have HB3 := hide hb3
            clear hb3
            go_wp2
            go_ret
            exact ⟨ret_bool (by rw [HR.out, HDF.out, hvd, HL3.out]; rfl), HB2.out.trans (HB3.out.mono HB2.out.size)⟩
        · have b3 : ((ds.length : Int) == 3) = false := by rw [beq_eq_false_iff_ne]; omega
          have HF : Hid (decide (ds.length = 3) = false) := decide_eq_false hL3
          clear hL3 hL
          go_wp2
          go_ret
          exact ⟨ret_bool (by rw [HR.out, HDF.out, HF.out]; rfl), HB.out⟩
      · subst hn'
        subst hr1
        have HDF : Hid (exprF (n' + 1 + 1) (.agg ds) = (varD y && varsL [] ys && (ds.drop 2).all (exprF (n' + 1)))) := by
          show _ = _
          rw [ex_define _ ds HH.out, HE1.out, if_pos (by simp [itemsD]; omega)]; rfl
        obtain ⟨k1, m1, s1, p1, rfl⟩ := RV.form _ _ _ hry
        obtain ⟨k2, m2, s2, p2, rfl⟩ := RV.form _ _ _ hrys
        have y0 := cell_of_block hBB 0
        have y1 := cell_of_block hBB 1
        have y2 := cell_of_block hBB 2
        have y3 := cell_of_block hBB 3
        have y4 := cell_of_block hBB 4
        simp [rcells] at y0 y1 y2 y3 y4
        have HRY := hide hry
        have HRYS := hide hrys
        have HBB := hide hBB
        have hbbl := lt_of_some hBB
        have HL := hide hL
        clear hrv1 hry hrys hBB hL h15 h25
        go_wp2_with fail
        refine (variable_rv n' y (rcells k1 m1 s1 p1) _ HRY.out).mono ?_
        rintro e w2 ⟨rfl, hb2⟩
        have HB2 := hide (show Below w.heap.size w w2 from HB.out.trans (hb2.mono HB.out.size))
        have HB2' := hide hb2
        have a3' : w2.cell? ⟨g, 5 + 3, none⟩ = some (.pointer (some ⟨bb, 0, none⟩)) := by rw [hb2.cell (p := ⟨g, 5 + 3, none⟩) hg]; exact a3
        have hBB2 := (Upd.of_below (fun _ => False) hb2).at HBB.out (fun h => h)
        have z5 := cell_of_block hBB2 5
        have z6 := cell_of_block hBB2 6
        have z7 := cell_of_block hBB2 7
        have z8 := cell_of_block hBB2 8
        have z9 := cell_of_block hBB2 9
        simp [rcells] at z5 z6 z7 z8 z9 a3'
        clear hb2 hBB2 y0 y1 y2 y3 y4
        cases hvd : varD y with
        | false =>
          go_wp2
          go_ret
          exact ⟨ret_bool (by rw [HR.out, HDF.out, hvd]; rfl), HB2.out⟩
        | true =>
          go_wp2_with fail
          refine (variables_any n' (.agg ys) (rcells k2 m2 s2 p2) _ (by exact RV.keep (Keep.of_below HB2'.out) _ _ _ HRYS.out)).mono ?_
          rintro e w3 ⟨rfl, hb3⟩
          have HB3 := hide (show Below w.heap.size w w3 from HB2.out.trans (hb3.mono HB2.out.size))
          have HB3' := hide (HB2'.out.trans (hb3.mono HB2'.out.size))
          clear hb3 z5 z6 z7 z8 z9 a3'
          cases hvs : varsL [] ys with
          | false =>
            have hvv : (isList (.agg ys) && varsL [] (itemsD (.agg ys))) = false := hvs
            rw [hvv]
            go_wp2
            go_ret
            exact ⟨ret_bool (by rw [HR.out, HDF.out, hvs, Bool.and_false]; rfl), HB3.out⟩
          | true =>
            have hvv : (isList (.agg ys) && varsL [] (itemsD (.agg ys))) = true := hvs
            rw [hvv]
            go_wp2_with fail
            refine (all_any _ HEX.out (css.drop 2) (ds.drop 2) _ _ (by exact rd_drop 2 (HRow.out.rd.below HB3'.out) (HRv.out.below HB3'.out) (by have := HL.out; omega)) (RVs.drop 2 (HRv.out.below HB3'.out)) (by simp; omega)).mono ?_
            rintro e w4 ⟨rfl, hb4⟩
            have HB4 := hide hb4
            clear hb4
            go_wp2
            go_ret
            exact ⟨ret_bool (by rw [HR.out, HDF.out, hvd, hvs]; rfl), HB3.out.trans (HB4.out.mono HB3.out.size)⟩
    · have i2 : ¬ (3 : Int) ≤ (ds.length : Int) := by omega
      have i4 : ((ds.length : Int) == 3) = false := by rw [beq_eq_false_iff_ne]; omega
      have HF : Hid (exprF (n + 1) (.agg ds) = false) := by
        show _ = _
        rw [ex_define n ds HH.out, if_neg (by omega), decide_eq_false (show ¬ ds.length = 3 from by omega)]; rfl
      clear hL
      go_wp2
      go_ret
      exact ⟨ret_bool (by rw [HR.out, HF.out]), HB.out⟩
  · -- let
    by_cases hL : 3 ≤ ds.length
    · obtain ⟨g', hgg, _, x1, q1, t1, r1, hrv1, a0, a1, a2, a3, a4⟩ := HAT.out 1 (by omega)
      cases hgg
      have HE1 : Hid (ds.getD 1 (num 0) = ds[1]) := by show _ = _; rw [List.getD_eq_getElem?_getD, List.getElem?_eq_getElem (by omega)]; rfl
      generalize ds[1] = e1 at *
      simp only [Nat.one_mul] at a0 a1 a2 a3 a4
      have i0 : (3 : Int) ≤ (ds.length : Int) := by omega
      have i1 : (1 : Int) < (ds.length : Int) := by omega
      have i2 : (2 : Int) ≤ (ds.length : Int) := by omega
      have i3 : (2 : Int) < (cap : Int) := by omega
      have HL := hide hL
      have HR1 := hide hrv1
      clear hL hrv1
      go_wp2_with fail
      refine (bindings_any n HEX.out e1 (rcells x1 q1 t1 r1) _ HR1.out).mono ?_
      rintro e w2 ⟨rfl, hb2⟩
      have HB2 := hide (show Below w.heap.size w w2 from HB.out.trans (hb2.mono HB.out.size))
      have HB2' := hide hb2
      clear hb2
      cases hvd : bindD n e1 with
      | false =>
        go_wp2
        go_ret
        exact ⟨ret_bool (by rw [HR.out, ex_let _ ds HH.out, HE1.out, hvd, Bool.and_false]; rfl), HB2.out⟩
      | true =>
        go_wp2_with fail
        refine (all_any _ HEX.out (css.drop 2) (ds.drop 2) _ _ (by exact rd_drop 2 (HRow.out.rd.below HB2'.out) (HRv.out.below HB2'.out) (by omega)) (RVs.drop 2 (HRv.out.below HB2'.out)) (by simp; omega)).mono ?_
        rintro e w3 ⟨rfl, hb3⟩
        have HB3 := hide hb3
        clear hb3
        go_wp2
        go_ret
        exact ⟨ret_bool (by rw [HR.out, ex_let _ ds HH.out, HE1.out, hvd, decide_eq_true HL.out]; rfl), HB2.out.trans (HB3.out.mono HB2.out.size)⟩
    · have i2 : ¬ (3 : Int) ≤ (ds.length : Int) := by omega
      have HF : Hid (decide (3 ≤ ds.length) = false) := decide_eq_false hL
      clear hL
      go_wp2
      go_ret
      exact ⟨ret_bool (by rw [HR.out, ex_let n ds HH.out, HF.out]; rfl), HB.out⟩
  · -- an application
    go_wp2_with fail
    refine (all_any n HEX.out css ds _ _ HRow.out.rd HRv.out (by omega)).mono ?_
    rintro e w2 ⟨rfl, hb2⟩
    have HB2 := hide hb2
    clear hb2
    go_wp2
    go_ret
    exact ⟨ret_bool (by rw [HR.out, ex_app n ds HH.out hd]), HB.out.trans (HB2.out.mono HB.out.size)⟩
end Go.Proofs.YtlobegpjenabaaaGreatDoor
