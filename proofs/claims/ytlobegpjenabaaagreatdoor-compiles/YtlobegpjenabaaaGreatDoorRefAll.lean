/- latheref: all, bindings. -/
import Derived.Test.YtlobegpjenabaaaGreatDoorRefVars
namespace Go.Proofs.YtlobegpjenabaaaGreatDoor
open Go.RowKit
set_option linter.unusedSimpArgs false
set_option linter.unusedVariables false

/-- Expression, of what is less than n deep. -/
def ExprAt (n : Nat) : Prop := ∀ (d : D) (cs : Array Value) (w : World), RV w n cs d → Calls Tryz.prog 45 #[.agg cs] w fun e w' => e = .returned (.bool (exprF n d)) ∧ Below w.heap.size w w'

/-- The cells of number k of a row that is read. -/
theorem rd_at {n : Nat} {w : World} {v : Value} {css : List (Array Value)} {ds : List D} (hrow : RowRd w v css) (hds : RVs w n css ds) : ∃ a cap, v = .slice a ds.length cap ∧ ds.length ≤ cap ∧ cap ≤ maxLen ∧
    ∀ k (hk : k < ds.length), ∃ g off, a = some ⟨g, off, none⟩ ∧ g < w.heap.size ∧ ∃ x m s p, RV w n (rcells x m s p) ds[k] ∧ w.cell? ⟨g, off + k * 5, none⟩ = some (.int .i64 x) ∧ w.cell? ⟨g, off + k * 5 + 1, none⟩ = some (.int .i64 m) ∧ w.cell? ⟨g, off + k * 5 + 2, none⟩ = some (.string s) ∧ w.cell? ⟨g, off + k * 5 + 3, none⟩ = some (.pointer p) ∧ w.cell? ⟨g, off + k * 5 + 4, none⟩ = some (.pointer none) := by
  have hl := hds.length
  obtain ⟨a, cap, hv, h1, h2, h3⟩ := hrow
  rw [hl] at hv h1 h3
  refine ⟨a, cap, hv, h1, h2, fun k hk => ?_⟩
  obtain ⟨g, off, ha, hg, hc⟩ := h3 (by omega)
  obtain ⟨c, _, h5, hrv, hf⟩ := flat_at hds k hk
  obtain ⟨x, m, s, p, rfl⟩ := RV.form _ _ _ hrv
  exact ⟨g, off, ha, hg, x, m, s, p, hrv, hc _ _ (by have := hf 0 (by omega); simpa [rcells] using this), by rw [Nat.add_assoc]; exact hc _ _ (by have := hf 1 (by omega); simpa [rcells] using this), by rw [Nat.add_assoc]; exact hc _ _ (by have := hf 2 (by omega); simpa [rcells] using this), by rw [Nat.add_assoc]; exact hc _ _ (by have := hf 3 (by omega); simpa [rcells] using this), by rw [Nat.add_assoc]; exact hc _ _ (by have := hf 4 (by omega); simpa [rcells] using this)⟩

theorem all_step (f : D → Bool) (ds : List D) (k : Nat) (h : k < ds.length) : (ds.take (k + 1)).all f = ((ds.take k).all f && f ds[k]) := by
  rw [List.take_succ_eq_append_getElem h, List.all_append]; simp
theorem rall_no (f : D → Bool) (ds : List D) (k : Nat) (h : k < ds.length) (hf : f ds[k] = false) : ds.all f = false := by
  rw [List.all_eq_false]; exact ⟨ds[k], List.getElem_mem h, by simp [hf]⟩

set_option maxRecDepth 100000 in
set_option maxHeartbeats 1000000 in
theorem all_go (n : Nat) (HE : ExprAt n) (css : List (Array Value)) (ds : List D) (v : Value) (w : World) (hrow : RowRd w v css) (hds : RVs w n css ds) (hlen : ds.length ≤ 1000) (r : Bool) (HR : Hid (r = ds.all (exprF n))) :
    Calls Tryz.prog 68 #[v] w fun e w' => e = .returned (.bool r) ∧ Below w.heap.size w w' := by
  obtain ⟨a, cap, rfl, hc1, hc2, hat⟩ := rd_at hrow hds
  have HAT := hide hat
  have HEX := hide HE
  clear hat hrow hds HE
  unfold maxLen at hc2
  go_enter Tryz.func68, Tryz.ntmps68
  go_wp2
  go_loopw [3] (fun i wr => ∃ k : Nat, k ≤ ds.length ∧ i = .int .i64 k ∧ (ds.take k).all (exprF n) = true ∧ Below w.heap.size w wr) (fun i _ => ds.length - (intOf i).toNat)
  case atStart => exact ⟨0, Nat.zero_le _, rfl, rfl, Below.refl _ _⟩
  case round =>
    obtain ⟨k, hk, rfl, hvt, hbr⟩ := hrel
    have HVT := hide hvt
    clear hvt
    by_cases hlt : k < ds.length
    · obtain ⟨g, off, rfl, hg, x, m, s, p, hrv, c0, c1, c2, c3, c4⟩ := HAT.out k hlt
      have d0 : wr.cell? ⟨g, off + k * 5, none⟩ = some (.int .i64 x) := by rw [hbr.cell (p := ⟨g, off + k * 5, none⟩) hg]; exact c0
      have d1 : wr.cell? ⟨g, off + k * 5 + 1, none⟩ = some (.int .i64 m) := by rw [hbr.cell (p := ⟨g, off + k * 5 + 1, none⟩) hg]; exact c1
      have d2 : wr.cell? ⟨g, off + k * 5 + 2, none⟩ = some (.string s) := by rw [hbr.cell (p := ⟨g, off + k * 5 + 2, none⟩) hg]; exact c2
      have d3 : wr.cell? ⟨g, off + k * 5 + 3, none⟩ = some (.pointer p) := by rw [hbr.cell (p := ⟨g, off + k * 5 + 3, none⟩) hg]; exact c3
      have d4 : wr.cell? ⟨g, off + k * 5 + 4, none⟩ = some (.pointer none) := by rw [hbr.cell (p := ⟨g, off + k * 5 + 4, none⟩) hg]; exact c4
      have HRV := hide hrv
      have HBR := hide hbr
      clear hrv hbr c0 c1 c2 c3 c4
      go_wp2_with fail
      refine (HEX.out ds[k] (rcells x m s p) _ (by exact RV.keep (Keep.of_below HBR.out) _ _ _ HRV.out)).mono ?_
      rintro e w2 ⟨rfl, hb2⟩
      have hb12 : Below w.heap.size w w2 := HBR.out.trans (hb2.mono HBR.out.size)
      have HB12 := hide hb12
      clear hb2 hb12 d0 d1 d2 d3 d4
      cases hvd : exprF n ds[k] with
      | false =>
        have HFN := hide (rall_no (exprF n) ds k hlt hvd)
        clear hvd
        go_wp2
        go_ret
        exact ⟨ret_bool (by rw [HR.out, HFN.out]), HB12.out⟩
      | true =>
        have HVD := hide hvd
        clear hvd
        go_wp2
        go_roundw
        case rel => exact ⟨k + 1, by omega, by go_num, by rw [all_step _ ds k hlt, HVT.out, HVD.out]; rfl, HB12.out⟩
        case measure => simp [intOf]; omega
    · have hk : k = ds.length := by omega
      subst hk
      have HBR := hide hbr
      clear hbr
      go_wp2
      go_ret
      exact ⟨ret_bool (by rw [HR.out]; have := HVT.out; rw [List.take_length] at this; exact this.symm), HBR.out⟩
theorem all_any (n : Nat) (HE : ExprAt n) (css : List (Array Value)) (ds : List D) (v : Value) (w : World) (hrow : RowRd w v css) (hds : RVs w n css ds) (hlen : ds.length ≤ 1000) :
    Calls Tryz.prog 68 #[v] w fun e w' => e = .returned (.bool (ds.all (exprF n))) ∧ Below w.heap.size w w' := all_go n HE css ds v w hrow hds hlen _ rfl
end Go.Proofs.YtlobegpjenabaaaGreatDoor
