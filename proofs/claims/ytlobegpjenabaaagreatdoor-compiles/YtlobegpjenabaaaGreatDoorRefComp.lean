/- latheref.Compile: what is wrong with a text, and where. -/
import Derived.Test.YtlobegpjenabaaaGreatDoorRefExpr
namespace Go.Proofs.YtlobegpjenabaaaGreatDoor
open Go.RowKit
set_option linter.unusedSimpArgs false
set_option linter.unusedVariables false

set_option maxRecDepth 100000 in
set_option maxHeartbeats 1000000 in
/-- Expression, of what is no pair and no symbol. -/
theorem expr_atom (k m : Int) (s : ByteArray) (p : Option Addr) (w : World) (n : Nat) (d : D) (hv : RV w (n + 1) (rcells k m s p) d) (h3 : (k == 3) = false) (h5 : (k == 5) = false) :
    Calls Tryz.prog 45 #[.agg (rcells k m s p)] w fun e w' => e = .returned (.bool (k != 4)) ∧ Below w.heap.size w w' := by
  have b5 : (k != 5) = true := by rw [bne, h5]; rfl
  have HIA := hide (items_atom k m s p · h5)
  clear hv
  unfold rcells
  go_enter Tryz.func45, Tryz.ntmps45
  go_wp2_with fail
  refine (HIA.out _).mono ?_
  rintro e w1 ⟨rfl, hb1⟩
  have hbw : Below w.heap.size w w1 := ((Below.refl _ _).alloc (Nat.le_refl _) _).trans (hb1.mono (by simp))
  have hA0 : w1.cell? ⟨w.heap.size, 0, none⟩ = some (.int .i64 k) := by
    rw [hb1.cell (p := ⟨w.heap.size, 0, none⟩) (by simp)]; exact World.cell?_alloc_at _ _ _ 0 rfl
  have HB := hide hbw
  clear hbw hb1
  go_wp2
  go_ret
  exact ⟨rfl, HB.out⟩

set_option maxRecDepth 100000 in
set_option maxHeartbeats 1000000 in
/-- Expression, of a symbol. -/
theorem expr_sym (m : Int) (s : ByteArray) (p : Option Addr) (w : World) :
    Calls Tryz.prog 45 #[.agg (rcells 3 m s p)] w fun e w' => e = .returned (.bool (!(kwB s.data.toList))) ∧ Below w.heap.size w w' := by
  unfold rcells
  go_enter Tryz.func45, Tryz.ntmps45
  go_wp2_with fail
  refine (variable_any 3 m s p _).mono ?_
  rintro e w1 ⟨rfl, hb1⟩
  have hbw : Below w.heap.size w w1 := ((Below.refl _ _).alloc (Nat.le_refl _) _).trans (hb1.mono (by simp))
  have HB := hide hbw
  clear hbw hb1
  go_wp2
  go_ret
  exact ⟨rfl, HB.out⟩

theorem expr_all : ∀ n, ExprAt n
  | 0 => fun d cs w h => h.elim
  | n + 1 => fun d cs w h => by
    match d, h with
    | .agg [], h =>
      have h' := h.2
      have h' : cs = rcells 4 0 emptyB none := h'
      subst h'
      exact expr_atom 4 0 emptyB none w n (.agg []) h rfl rfl
    | .agg (y :: ys), h => exact expr_list n (expr_all n) (y :: ys) (by simp) cs w h _ rfl
    | .lit (.int q z), h => cases q <;> first | (cases h; done) | (have h' : some _ = some cs := h; cases h'; exact expr_atom _ _ _ _ w n _ h rfl rfl)
    | .lit (.bool b), h => have h' : some _ = some cs := h; cases h'; exact expr_atom _ _ _ _ w n _ h rfl rfl
    | .lit (.string t), h => have h' : some _ = some cs := h; cases h'; exact expr_sym _ _ _ w
    | .nil, h => have h' : some _ = some cs := h; cases h'; exact expr_atom _ _ _ _ w n _ h rfl rfl

theorem badAt_step (n : Nat) : ∀ (ds : List D) (i k : Nat) (hk : k ≤ ds.length), (∀ j (hj : j < k), exprF n (ds[j]'(by omega)) = true) → badAt n i ds = badAt n (i + k) (ds.drop k)
  | ds, i, 0, _, _ => by simp
  | [], i, k + 1, hk, _ => absurd hk (by simp)
  | d :: r, i, k + 1, hk, h => by
    have h0 := h 0 (by omega)
    simp at h0
    rw [badAt, if_pos h0, badAt_step n r (i + 1) k (by simpa using hk) (fun j hj => by have := h (j + 1) (by omega); simpa using this)]
    simp only [List.drop_succ_cons]
    congr 1; omega

/-- What a call of the document's Compile comes to. -/
def CompPost (l : List UInt8) (w : World) (e : Ending) (w' : World) : Prop := ∃ v, e = .returned (.tuple #[v, .int .i64 (compS l).1, .int .i64 (compS l).2]) ∧ Below w.heap.size w w' ∧ ((compS l).1 = 0 → ∃ css f, Row5 w.heap.size w' v css ∧ RVs w' 21 css f)

set_option maxRecDepth 100000 in
set_option maxHeartbeats 1000000 in
theorem refCompile_any (s : ByteArray) (hmax : s.size ≤ maxLen) (w : World) : Calls Tryz.prog 33 #[.string s] w (CompPost s.data.toList w) := by
  by_cases hs : 1000 < s.size
  · have i1 : (1000 : Int) < (s.size : Int) := by omega
    have HC : Hid (compS s.data.toList = (1, 1000)) := by show _ = _; unfold compS; rw [if_pos (by simpa using hs)]
    go_enter Tryz.func33, Tryz.ntmps33
    go_wp2
    go_ret3
    exact ⟨_, by rw [HC.out]; rfl, Below.refl _ _, fun h => by rw [HC.out] at h; cases h⟩
  · have hs : s.size ≤ 1000 := by omega
    have i1 : (s.size : Int) ≤ 1000 := by omega
    have HRD := hide (read_any s hs)
    go_enter Tryz.func33, Tryz.ntmps33
    go_wp2_with fail
    refine (HRD.out _).mono ?_
    rintro e w1 ⟨hb1, h1, h2⟩
    cases hr : readS (s.data.toList.length + 1) s.data.toList 0 [] with
    | inl ep =>
      obtain ⟨er, pp⟩ := ep
      obtain ⟨rfl, hne⟩ := h1 er pp hr
      have bne0 : (er != 0) = true := by rw [bne_iff_ne]; exact hne
      have HC : Hid (compS s.data.toList = (er, (pp : Int))) := by show _ = _; unfold compS; rw [if_neg (by simp; omega), hr]
      have HB := hide hb1
      have HNE := hide hne
      clear h1 h2 hr hne hb1
      go_wp2
      go_ret3
      exact ⟨_, by rw [HC.out]; rfl, HB.out, fun h => by rw [HC.out] at h; exact absurd h HNE.out⟩
    | inr f =>
      obtain ⟨v, css, rfl, hrow, hrvs, hlen⟩ := h2 f hr
      have HC : Hid (compS s.data.toList = match badAt 21 0 f with | some i => (4, (i : Int)) | none => (0, 0)) := by show _ = _; unfold compS; rw [if_neg (by simp; omega), hr]; rfl
      obtain ⟨a, cap, rfl, hc1, hc2, hat⟩ := row_at hrow hrvs
      have HB := hide hb1
      have HROW := hide hrow
      have HRVS := hide hrvs
      have HAT := hide hat
      unfold maxLen at hc2
      clear h1 h2 hr hb1 hrow hrvs hat
      go_wp2_with fail
      go_loopw [8] (fun i wr => ∃ k : Nat, k ≤ f.length ∧ i = .int .i64 k ∧ (∀ j (hj : j < k) (hf : j < f.length), exprF 21 f[j] = true) ∧ Below w1.heap.size w1 wr) (fun i _ => f.length - (intOf i).toNat)
      case atStart => exact ⟨0, Nat.zero_le _, rfl, fun j hj => absurd hj (by omega), Below.refl _ _⟩
      case round =>
        obtain ⟨k, hk, rfl, hall, hbr⟩ := hrel
        have HALL := hide hall
        clear hall
        by_cases hlt : k < f.length
        · obtain ⟨g, rfl, hg, x, m, t, p, hrv, c0, c1, c2, c3, c4⟩ := HAT.out k hlt
          have d0 : wr.cell? ⟨g, k * 5, none⟩ = some (.int .i64 x) := by rw [hbr.cell (p := ⟨g, k * 5, none⟩) hg]; exact c0
          have d1 : wr.cell? ⟨g, k * 5 + 1, none⟩ = some (.int .i64 m) := by rw [hbr.cell (p := ⟨g, k * 5 + 1, none⟩) hg]; exact c1
          have d2 : wr.cell? ⟨g, k * 5 + 2, none⟩ = some (.string t) := by rw [hbr.cell (p := ⟨g, k * 5 + 2, none⟩) hg]; exact c2
          have d3 : wr.cell? ⟨g, k * 5 + 3, none⟩ = some (.pointer p) := by rw [hbr.cell (p := ⟨g, k * 5 + 3, none⟩) hg]; exact c3
          have d4 : wr.cell? ⟨g, k * 5 + 4, none⟩ = some (.pointer none) := by rw [hbr.cell (p := ⟨g, k * 5 + 4, none⟩) hg]; exact c4
          have HRV := hide hrv
          have HBR := hide hbr
          clear hrv hbr c0 c1 c2 c3 c4
          go_wp2_with fail
          refine (expr_all 21 f[k] (rcells x m t p) _ (by exact RV.keep (Keep.of_below HBR.out) _ _ _ HRV.out)).mono ?_
          rintro e w2 ⟨rfl, hb2⟩
          have hb12 : Below w1.heap.size w1 w2 := HBR.out.trans (hb2.mono HBR.out.size)
          have HB12 := hide hb12
          clear hb2 hb12 d0 d1 d2 d3 d4
          cases hvd : exprF 21 f[k] with
          | false =>
            have HBA : Hid (badAt 21 0 f = some k) := by
              show _ = _
              rw [badAt_step 21 f 0 k (by omega) (fun j hj => HALL.out j hj (by omega)), List.drop_eq_getElem_cons hlt, badAt, if_neg (by simp [hvd]), Nat.zero_add]
            clear hvd
            go_wp2
            go_ret3
            exact ⟨_, by rw [HC.out, HBA.out]; rfl, HB.out.trans (HB12.out.mono HB.out.size), fun h => by rw [HC.out, HBA.out] at h; cases h⟩
          | true =>
            have HVD := hide hvd
            clear hvd
            go_wp2
            go_roundw
            case rel => exact ⟨k + 1, by omega, by go_num, fun j hj hf => by rcases Nat.lt_or_eq_of_le (Nat.le_of_lt_succ hj) with h | h; exact HALL.out j h hf; subst h; exact HVD.out, HB12.out⟩
            case measure => simp [intOf]; omega
        · have hk : k = f.length := by omega
          subst hk
          have HBA : Hid (badAt 21 0 f = none) := by
            show _ = _
            rw [badAt_step 21 f 0 f.length (Nat.le_refl _) (fun j hj => HALL.out j hj hj), List.drop_length]; rfl
          have HBR := hide hbr
          clear hbr
          go_wp2
          go_ret3
          exact ⟨_, by rw [HC.out, HBA.out]; rfl, HB.out.trans (HBR.out.mono HB.out.size), fun _ => ⟨css, f, ownsRow_of_upd HROW.out (Upd.of_below (fun _ => False) HBR.out) (fun _ _ h => h), RVs.keep (Keep.of_below HBR.out) _ _ _ HRVS.out⟩⟩
end Go.Proofs.YtlobegpjenabaaaGreatDoor
