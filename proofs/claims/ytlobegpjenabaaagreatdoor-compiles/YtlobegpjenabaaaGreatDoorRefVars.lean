/- latheref: variables. -/
import Derived.Test.YtlobegpjenabaaaGreatDoorRefForm
namespace Go.Proofs.YtlobegpjenabaaaGreatDoor
open Go.RowKit
set_option linter.unusedSimpArgs false
set_option linter.unusedVariables false

/-- Are the first k variables, no two the same? -/
def varsT (ds : List D) (k : Nat) : Bool := varsL [] (ds.take k)
/-- Is none of the first j names that of number k? -/
def freshT (ds : List D) (k j : Nat) : Bool := !(((ds.take j).map nameD).contains (nameD (ds.getD k .nil)))

theorem varsL_append : ∀ (ds : List D) (d : D) (seen : List (List UInt8)), varsL seen (ds ++ [d]) = (varsL seen ds && (varD d && !((seen ++ ds.map nameD).contains (nameD d))))
  | [], d, seen => by simp [varsL]
  | e :: r, d, seen => by
    have := varsL_append r d (seen ++ [nameD e])
    simp only [List.cons_append, varsL, List.map_cons]
    rw [this, List.append_assoc]
    simp [Bool.and_assoc]
theorem varsT_step (ds : List D) (k : Nat) (h : k < ds.length) : varsT ds (k + 1) = (varsT ds k && (varD ds[k] && freshT ds k k)) := by
  unfold varsT freshT
  rw [List.take_succ_eq_append_getElem h, varsL_append]
  simp [List.getD_eq_getElem?_getD, h]
theorem varsT_end (ds : List D) : varsT ds ds.length = varsL [] ds := by unfold varsT; rw [List.take_length]
/-- Where one of the first is none, all are not. -/
theorem varsT_no (ds : List D) (k : Nat) (h : varsT ds k = false) (hk : k ≤ ds.length) : varsL [] ds = false := by
  have : ∀ j, k + j ≤ ds.length → varsT ds (k + j) = false := by
    intro j
    induction j with
    | zero => intro _; exact h
    | succ j ih => intro hj; rw [← Nat.add_assoc, varsT_step ds (k + j) (by omega), ih (by omega)]; rfl
  have := this (ds.length - k) (by omega)
  rw [show k + (ds.length - k) = ds.length from by omega, varsT_end] at this; exact this
theorem freshT_step (ds : List D) (k j : Nat) (h : j < ds.length) : freshT ds k (j + 1) = (freshT ds k j && !(nameD ds[j] == nameD (ds.getD k .nil))) := by
  unfold freshT
  rw [List.take_succ_eq_append_getElem h, List.map_append, List.contains_eq_any_beq, List.contains_eq_any_beq, List.any_append]
  simp only [List.map_cons, List.map_nil, List.any_cons, List.any_nil, Bool.or_false, Bool.not_or]
  rw [show (nameD (ds.getD k .nil) == nameD ds[j]) = (nameD ds[j] == nameD (ds.getD k .nil)) from by rw [Bool.eq_iff_iff, beq_iff_eq, beq_iff_eq]; exact eq_comm]
theorem freshT_no (ds : List D) (k j : Nat) (h : freshT ds k j = false) (hj : j ≤ k) (hk : k < ds.length) : freshT ds k k = false := by
  have : ∀ m, j + m ≤ k → freshT ds k (j + m) = false := by
    intro m
    induction m with
    | zero => intro _; exact h
    | succ m ih => intro hm; rw [← Nat.add_assoc, freshT_step ds k (j + m) (by omega), ih (by omega)]; rfl
  have := this (k - j) (by omega)
  rw [show j + (k - j) = k from by omega] at this; exact this

theorem varsT_var (ds : List D) : ∀ (k j : Nat) (hk : k ≤ ds.length) (hj : j < k), varsT ds k = true → varD ds[j] = true
  | 0, j, _, hj, _ => absurd hj (by omega)
  | k + 1, j, hk, hj, h => by
    rw [varsT_step ds k (by omega), Bool.and_eq_true, Bool.and_eq_true] at h
    rcases Nat.lt_or_eq_of_le (Nat.le_of_lt_succ hj) with g | g
    · exact varsT_var ds k j (by omega) g h.1
    · subst g; exact h.2.1
theorem getD_at (ds : List D) (k : Nat) (h : k < ds.length) : ds.getD k .nil = ds[k] := by simp [List.getD_eq_getElem?_getD, h]
/-- The cells of number k of a row. -/
theorem row_at {B n : Nat} {w : World} {v : Value} {css : List (Array Value)} {ds : List D} (hrow : Row5 B w v css) (hds : RVs w n css ds) : ∃ a cap, v = .slice a ds.length cap ∧ ds.length ≤ cap ∧ cap ≤ maxLen ∧
    ∀ k (hk : k < ds.length), ∃ g, a = some ⟨g, 0, none⟩ ∧ g < w.heap.size ∧ ∃ x m s p, RV w n (rcells x m s p) ds[k] ∧ w.cell? ⟨g, k * 5, none⟩ = some (.int .i64 x) ∧ w.cell? ⟨g, k * 5 + 1, none⟩ = some (.int .i64 m) ∧ w.cell? ⟨g, k * 5 + 2, none⟩ = some (.string s) ∧ w.cell? ⟨g, k * 5 + 3, none⟩ = some (.pointer p) ∧ w.cell? ⟨g, k * 5 + 4, none⟩ = some (.pointer none) := by
  have hl := hds.length
  obtain ⟨a, cap, hv, h1, h2, h3⟩ := ownsRow_slice hrow
  rw [hl] at hv h1 h3
  refine ⟨a, cap, hv, h1, h2, fun k hk => ?_⟩
  obtain ⟨g, ha, _, hg, hc⟩ := h3 (by omega)
  obtain ⟨c, _, h5, hrv, hf⟩ := flat_at hds k hk
  obtain ⟨x, m, s, p, rfl⟩ := RV.form _ _ _ hrv
  exact ⟨g, ha, hg, x, m, s, p, hrv, hc _ _ (by have := hf 0 (by omega); simpa [rcells] using this), hc _ _ (by have := hf 1 (by omega); simpa [rcells] using this), hc _ _ (by have := hf 2 (by omega); simpa [rcells] using this), hc _ _ (by have := hf 3 (by omega); simpa [rcells] using this), hc _ _ (by have := hf 4 (by omega); simpa [rcells] using this)⟩

set_option maxRecDepth 100000 in
set_option maxHeartbeats 1000000 in
theorem variables_go (n : Nat) (d : D) (cs : Array Value) (w : World) (hv : RV w (n + 1) cs d) (r : Bool) (HR : Hid (r = (isList d && varsL [] (itemsD d)))) :
    Calls Tryz.prog 69 #[.agg cs] w fun e w' => e = .returned (.bool r) ∧ Below w.heap.size w w' := by
  obtain ⟨k0, m0, s0, p0, rfl⟩ := RV.form _ _ _ hv
  have hI : itemsD d = itemsD d := rfl
  have HV := hide hv
  clear hv hI
  unfold rcells
  go_enter Tryz.func69, Tryz.ntmps69
  go_wp2_with fail
  refine (items_any n d (rcells k0 m0 s0 p0) _ (by exact RV.keep (Keep.of_below ((Below.refl _ _).alloc (Nat.le_refl _) _)) _ _ _ HV.out)).mono ?_
  rintro e w1 ⟨v, css, rfl, hrow, hrvs, hb1⟩
  have hbw : Below w.heap.size w w1 := ((Below.refl _ _).alloc (Nat.le_refl _) _).trans (hb1.mono (by simp))
  have hlen : (itemsD d).length ≤ 1000 := by
    have := HV.out
    cases d with
    | agg l => exact this.1
    | _ => simp [itemsD]
  generalize itemsD d = ds at *
  obtain ⟨a, cap, rfl, hc1, hc2, hat⟩ := row_at hrow hrvs
  have HB := hide hbw
  have HAT := hide hat
  clear hbw hat hb1 hrow hrvs
  cases hil : isList d with
  | false =>
    go_wp2
    go_ret
    exact ⟨ret_bool (by rw [HR.out, hil]; rfl), HB.out⟩
  | true =>
    unfold maxLen at hc2
    go_wp2_with fail
    go_loopw [5] (fun i wr => ∃ k : Nat, k ≤ ds.length ∧ i = .int .i64 k ∧ varsT ds k = true ∧ Below w1.heap.size w1 wr) (fun i _ => ds.length - (intOf i).toNat)
    case atStart => exact ⟨0, Nat.zero_le _, rfl, rfl, Below.refl _ _⟩
    case round =>
      obtain ⟨k, hk, rfl, hvt, hbr⟩ := hrel
      have HVT := hide hvt
      clear hvt
      by_cases hlt : k < ds.length
      · obtain ⟨g, rfl, hg, x, m, s, p, hrv, c0, c1, c2, c3, c4⟩ := HAT.out k hlt
        have d0 : wr.cell? ⟨g, k * 5, none⟩ = some (.int .i64 x) := by rw [hbr.cell (p := ⟨g, k * 5, none⟩) hg]; exact c0
        have d1 : wr.cell? ⟨g, k * 5 + 1, none⟩ = some (.int .i64 m) := by rw [hbr.cell (p := ⟨g, k * 5 + 1, none⟩) hg]; exact c1
        have d2 : wr.cell? ⟨g, k * 5 + 2, none⟩ = some (.string s) := by rw [hbr.cell (p := ⟨g, k * 5 + 2, none⟩) hg]; exact c2
        have d3 : wr.cell? ⟨g, k * 5 + 3, none⟩ = some (.pointer p) := by rw [hbr.cell (p := ⟨g, k * 5 + 3, none⟩) hg]; exact c3
        have d4 : wr.cell? ⟨g, k * 5 + 4, none⟩ = some (.pointer none) := by rw [hbr.cell (p := ⟨g, k * 5 + 4, none⟩) hg]; exact c4
        have HRV := hide hrv
        have HBR := hide hbr
        have HC2 := hide c2
        clear hrv hbr c0 c1 c2 c3 c4
        go_wp2_with fail
        refine (variable_rv n ds[k] (rcells x m s p) _ (by exact RV.keep (Keep.of_below HBR.out) _ _ _ HRV.out)).mono ?_
        rintro e w2 ⟨rfl, hb2⟩
        have hb12 : Below w1.heap.size w1 w2 := HBR.out.trans (hb2.mono HBR.out.size)
        have HB12 := hide hb12
        clear hb2 hb12 d0 d1 d2 d3 d4
        cases hvd : varD ds[k] with
        | false =>
          have HFN := hide (varsT_no ds (k + 1) (by rw [varsT_step ds k hlt, hvd]; simp) (by omega))
          clear hvd
          go_wp2
          go_ret
          exact ⟨ret_bool (by rw [HR.out, HFN.out, Bool.and_false]), HB.out.trans (HB12.out.mono HB.out.size)⟩
        | true =>
          have HVD := hide hvd
          have HNM := hide ((var_atom ds[k] x m s p w1 n HRV.out).2 hvd)
          clear hvd
          go_wp2_with fail
          go_loopw [6] (fun i wq => ∃ j : Nat, j ≤ k ∧ i = .int .i64 j ∧ freshT ds k j = true ∧ Below w1.heap.size w1 wq) (fun i _ => k - (intOf i).toNat)
          case atStart => exact ⟨0, Nat.zero_le _, rfl, rfl, HB12.out⟩
          case round =>
            obtain ⟨j, hj, rfl, hfr, hbq⟩ := hrel
            have HFR := hide hfr
            clear hfr
            by_cases hjk : j < k
            · obtain ⟨g', hgg, hg', x', m', s', p', hrv', c0, c1, c2, c3, c4⟩ := HAT.out j (by omega)
              cases hgg
              have d2 : wr.cell? ⟨g, j * 5 + 2, none⟩ = some (.string s') := by rw [hbq.cell (p := ⟨g, j * 5 + 2, none⟩) hg]; exact c2
              have e2 : wr.cell? ⟨g, k * 5 + 2, none⟩ = some (.string s) := by rw [hbq.cell (p := ⟨g, k * 5 + 2, none⟩) hg]; exact HC2.out
              have hvj := varsT_var ds k j (by omega) hjk HVT.out
              have hnj := (var_atom ds[j] x' m' s' p' w1 n hrv').2 hvj
              have HST : Hid (freshT ds k (j + 1) = (freshT ds k j && !(s'.toList == s.toList))) := by
                show _ = _
                rw [freshT_step ds k j (by omega), getD_at ds k hlt, hnj, HNM.out, ByteArray.toList_eq, ByteArray.toList_eq]
              have HBQ := hide hbq
              have hjl : j < ds.length := by omega
              clear hvj hnj hrv' c0 c1 c2 c3 c4 hbq
              have i1 : (0 : Int) ≤ (j : Int) := by omega
              have i2 : (j : Int) < (ds.length : Int) := by omega
              have i3 : (0 : Int) ≤ (k : Int) := by omega
              have i4 : (k : Int) < (ds.length : Int) := by omega
              cases hss : (s'.toList == s.toList) with
              | true =>
                have HFN := hide (varsT_no ds (k + 1) (by rw [varsT_step ds k hlt, freshT_no ds k (j + 1) (by rw [HST.out, hss]; simp) (by omega) hlt]; simp) (by omega))
                go_wp2_with fail
                go_quiet (fail)
                go_wp2
                go_ret
                exact ⟨ret_bool (by rw [HR.out, HFN.out, Bool.and_false]), HB.out.trans ((Upd.below ((Upd.of_below (fun _ => False) HBQ.out).drewN _) (Nat.le_refl _) (fun _ h => h.elim)).mono HB.out.size)⟩
              | false =>
                go_wp2_with fail
                go_quiet (fail)
                go_wp2
                go_roundw
                case rel => exact ⟨j + 1, by omega, by go_num, by rw [HST.out, HFR.out, hss]; rfl, Upd.below ((Upd.of_below (fun _ => False) HBQ.out).drewN _) (Nat.le_refl _) (fun _ h => h.elim)⟩
                case measure => simp [intOf]; omega
            · have hjk : j = k := by omega
              subst hjk
              have HBQ := hide hbq
              clear hbq
              go_wp2
              go_roundw
              case rel => exact ⟨j + 1, by omega, by go_num, by rw [varsT_step ds j hlt, HVT.out, HVD.out, HFR.out]; rfl, HBQ.out⟩
              case measure => simp [intOf]; omega
      · have hk : k = ds.length := by omega
        subst hk
        have HBR := hide hbr
        clear hbr
        go_wp2
        go_ret
        exact ⟨ret_bool (by rw [HR.out, hil, ← varsT_end, HVT.out]; rfl), HB.out.trans (HBR.out.mono HB.out.size)⟩

theorem variables_any (n : Nat) (d : D) (cs : Array Value) (w : World) (hv : RV w (n + 1) cs d) :
    Calls Tryz.prog 69 #[.agg cs] w fun e w' => e = .returned (.bool (isList d && varsL [] (itemsD d))) ∧ Below w.heap.size w w' := variables_go n d cs w hv _ rfl
end Go.Proofs.YtlobegpjenabaaaGreatDoor
