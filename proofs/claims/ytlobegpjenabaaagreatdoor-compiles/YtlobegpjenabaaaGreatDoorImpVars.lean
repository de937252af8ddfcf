/- expr: variables. -/
import Derived.Test.YtlobegpjenabaaaGreatDoorImpVar
namespace Go.Proofs.YtlobegpjenabaaaGreatDoor
open Go.RowKit
set_option linter.unusedSimpArgs false
set_option linter.unusedVariables false

/-- A row of values that is read alone: it may begin anywhere in a block. -/
def RowQ (w : World) (v : Value) (vs : List Value) : Prop :=
  ∃ a cap, v = .slice a vs.length cap ∧ vs.length ≤ cap ∧ cap ≤ maxLen ∧ (0 < vs.length → ∃ g off, a = some ⟨g, off, none⟩ ∧ g < w.heap.size ∧ ∀ (j : Nat) u, vs[j]? = some u → w.cell? ⟨g, off + j, none⟩ = some u)
theorem RowI.q {B : Nat} {w : World} {v : Value} {vs : List Value} (h : RowI B w v vs) : RowQ w v vs := by
  obtain ⟨a, cap, hv, h1, h2, h3⟩ := ownsRow_slice h
  refine ⟨a, cap, hv, h1, h2, fun hp => ?_⟩
  obtain ⟨g, ha, _, hg, hc⟩ := h3 hp
  exact ⟨g, 0, ha, hg, fun j u hj => by rw [Nat.zero_add]; exact hc j u hj⟩
theorem RowQ.below {w w' : World} {v : Value} {vs : List Value} (h : RowQ w v vs) (hb : Below w.heap.size w w') : RowQ w' v vs := by
  obtain ⟨a, cap, hv, h1, h2, h3⟩ := h
  refine ⟨a, cap, hv, h1, h2, fun hp => ?_⟩
  obtain ⟨g, off, ha, hg, hc⟩ := h3 hp
  exact ⟨g, off, ha, Nat.lt_of_lt_of_le hg hb.size, fun j u hj => by rw [hb.cell (p := ⟨g, off + j, none⟩) hg]; exact hc j u hj⟩
theorem rowQ_at {n : Nat} {w : World} {v : Value} {vs : List Value} {ds : List D} (hrow : RowQ w v vs) (hds : IVs w n vs ds) : ∃ a cap, v = .slice a ds.length cap ∧ ds.length ≤ cap ∧ cap ≤ maxLen ∧
    ∀ k (hk : k < ds.length), ∃ g off, a = some ⟨g, off, none⟩ ∧ g < w.heap.size ∧ ∃ t x, IV w n (.iface t x) ds[k] ∧ w.cell? ⟨g, off + k, none⟩ = some (.iface t x) := by
  have hl := hds.length
  obtain ⟨a, cap, hv, h1, h2, h3⟩ := hrow
  rw [hl] at hv h1 h3
  refine ⟨a, cap, hv, h1, h2, fun k hk => ?_⟩
  obtain ⟨g, off, ha, hg, hc⟩ := h3 (by omega)
  obtain ⟨u, hu, hiv⟩ := hds.at k hk
  obtain ⟨t, x, rfl⟩ := IV.form _ _ _ hiv
  exact ⟨g, off, ha, hg, t, x, hiv, hc _ _ hu⟩

/-- A row of strings. -/
def RowT (B : Nat) (w : World) (v : Value) (zs : List ByteArray) : Prop := w.ownsRow B 9 1 v zs.length (zs.map .string)
theorem RowT.nil (B : Nat) (w : World) : RowT B w (.slice none 0 0) [] := World.ownsRow_nil _ _ _ _
theorem infoStr : (Tryz.prog.info? 9).map (fun i => (i.zero, i.size, i.bytes)) = some (some (.string ⟨#[]⟩), 1, 16) := by kernel_rfl

/-- slices.Contains of a row of strings. -/
theorem contains_row {B : Nat} {w : World} {v : Value} {zs : List ByteArray} (x : ByteArray) (h : RowT B w v zs) :
    Calls Tryz.prog 229 #[v, .string x] w fun e w' => e = .returned (.bool (Lib.containsS zs x)) ∧ w' = w := by
  obtain ⟨a, cap, rfl, h1, h2, h3⟩ := ownsRow_slice h
  rcases Nat.eq_zero_or_pos zs.length with h0 | hp
  · have : zs = [] := List.length_eq_zero_iff.1 h0
    subst this
    exact Tryz.slices_Contains_string_empty a cap x w
  · obtain ⟨g, rfl, _, hg, hc⟩ := h3 hp
    unfold maxLen at h2
    have := Tryz.slices_Contains_string g 0 zs.length cap zs x w (Nat.le_refl _) (by omega) (fun j hj => by rw [Nat.zero_add]; exact hc j _ (by simp [hj, List.getD_eq_getElem?_getD]))
    rwa [List.take_length] at this

theorem ret_pair_bool {u : Value} {a b : Bool} (h : a = b) : Ending.returned (.tuple #[u, .bool a]) = .returned (.tuple #[u, .bool b]) := by rw [h]
/-- The names of data. -/
def NmOf (zs : List ByteArray) (ds : List D) : Prop := zs.map (fun z => z.data.toList) = ds.map nameD
theorem NmOf.contains {zs : List ByteArray} {ds : List D} (h : NmOf zs ds) (x : ByteArray) : Lib.containsS zs x = (ds.map nameD).contains x.data.toList := by
  rw [Bool.eq_iff_iff, Lib.containsS_iff, ← h, List.contains_iff_mem, List.mem_map]
  constructor
  · intro hx; exact ⟨x, hx, rfl⟩
  · rintro ⟨z, hz, e⟩
    have : z = x := by cases z; cases x; congr 1; exact Array.toList_inj.1 e
    exact this ▸ hz
theorem NmOf.snoc {zs : List ByteArray} {ds : List D} {k : Nat} (hk : k < ds.length) (h : NmOf zs (ds.take k)) {t : ByteArray} (ht : t.data.toList = nameD ds[k]) : NmOf (zs ++ [t]) (ds.take (k + 1)) := by
  unfold NmOf at *
  rw [List.take_succ_eq_append_getElem hk, List.map_append, List.map_append, h]
  simp [ht]
theorem NmOf.length {zs : List ByteArray} {ds : List D} (h : NmOf zs ds) : zs.length = ds.length := by
  have := congrArg List.length h; simpa using this

theorem grow_row {w wr w1 : World} {v : Value} {e n : Nat} {xs : List Value} (hr : wr.ownsRow w.heap.size e 1 v n xs) (hb : Below w.heap.size w wr) (hu : Upd (fun k => v.ownBlock = some k) wr w1) : Below w.heap.size w w1 :=
  hb.trans (hu.below hb.size (by intro k hk; have := (ownsRow_ge hr hk).1; omega))

set_option maxRecDepth 100000 in
set_option maxHeartbeats 2000000 in
theorem ivariables_go (n : Nat) (vs : List Value) (ds : List D) (v : Value) (w : World) (hrow : RowQ w v vs) (hds : IVs w n vs ds) (hlen : ds.length ≤ 1000) (r : Bool) (HR : Hid (r = varsL [] ds)) :
    Calls Tryz.prog 208 #[v] w fun e w' => (∃ u, e = .returned (.tuple #[u, .bool r]) ∧ (r = true → ∃ zs, RowT w.heap.size w' u zs ∧ NmOf zs ds)) ∧ Below w.heap.size w w' := by
  obtain ⟨a, cap, rfl, hc1, hc2, hat⟩ := rowQ_at hrow hds
  have HAT := hide hat
  clear hat hrow hds
  unfold maxLen at hc2
  obtain ⟨i0, hi, hz0, hz1, hz2⟩ := info_parts infoStr
  have HI := hide (And.intro hi (And.intro hz0 (And.intro hz1 hz2)))
  clear hi hz0 hz1 hz2
  go_enter Tryz.func208, Tryz.ntmps208
  go_wp2
  go_loopw [4, 11] (fun u i wr => ∃ k : Nat, k ≤ ds.length ∧ i = .int .i64 k ∧ varsT ds k = true ∧ (∃ zs, RowT w.heap.size wr u zs ∧ NmOf zs (ds.take k)) ∧ Below w.heap.size w wr) (fun _ i _ => ds.length - (intOf i).toNat)
  case atStart => exact ⟨0, Nat.zero_le _, rfl, rfl, ⟨[], RowT.nil _ _, rfl⟩, Below.refl _ _⟩
  case round =>
    obtain ⟨k, hk, rfl, hvt, ⟨zs, hrt, hnm⟩, hb⟩ := hrel
    have HVT := hide hvt
    have HRT := hide hrt
    have HNM := hide hnm
    have HB := hide hb
    have hbs := hb.size
    have hzl : zs.length ≤ 1000 := by have := hnm.length; simp at this; omega
    by_cases hlt : k < ds.length
    · obtain ⟨g, off, rfl, hg, t, x, hiv, c0⟩ := HAT.out k hlt
      have d0 : wr.cell? ⟨g, off + k, none⟩ = some (.iface t x) := by rw [hb.cell (p := ⟨g, off + k, none⟩) hg]; exact c0
      have HIV := hide (IV.keep (Keep.of_below hb) _ _ _ hiv)
      clear hiv hb hvt hrt hnm c0
      go_wp2_with fail
      refine (ivariable_any n ds[k] (.iface t x) _ HIV.out).mono ?_
      rintro e w2 ⟨⟨tt, rfl, htn⟩, rfl⟩
      have HTN := hide htn
      clear htn
      cases hvd : varD ds[k] with
      | false =>
        have HFN := hide (varsT_no ds (k + 1) (by rw [varsT_step ds k hlt, hvd]; simp) (by omega))
        clear hvd
        go_wp2
        go_ret2
        exact ⟨⟨_, ret_pair_bool (by rw [HR.out, HFN.out]), fun h => by rw [HR.out, HFN.out] at h; cases h⟩, HB.out⟩
      | true =>
        have HVD := hide hvd
        clear hvd
        go_wp2_with fail
        refine (contains_row tt HRT.out).mono ?_
        rintro e w3 ⟨rfl, rfl⟩
        have HCT := hide (HNM.out.contains tt)
        cases hct : Lib.containsS zs tt with
        | true =>
          have HFN := hide (varsT_no ds (k + 1) (by
            rw [varsT_step ds k hlt, HVD.out]
            have h1 := HCT.out
            rw [hct, HTN.out HVD.out] at h1
            unfold freshT; rw [getD_at ds k hlt, ← h1]; simp) (by omega))
          clear hct
          go_wp2
          go_ret2
          exact ⟨⟨_, ret_pair_bool (by rw [HR.out, HFN.out]), fun h => by rw [HR.out, HFN.out] at h; cases h⟩, HB.out⟩
        | false =>
          have HVT2 := hide (show varsT ds (k + 1) = true from by
            rw [varsT_step ds k hlt, HVT.out, HVD.out]
            have h1 := HCT.out
            rw [hct, HTN.out HVD.out] at h1
            unfold freshT; rw [getD_at ds k hlt, ← h1]; rfl)
          clear hct
          go_wp2_with (at_builtin; refine wpList_append_lies _ rfl (.tmp 27) (.tmp 29) 26 rfl w.heap.size 9 i0 (.string ⟨#[]⟩) 1 16 Tryz.underlying26 HI.out.1 HI.out.2.1 HI.out.2.2.1 HI.out.2.2.2 rfl (by decide) _ zs.length (zs.map .string) rfl (HRT.out.alloc _) ⟨w3.heap.size, 0, none⟩ 1 1 [.string tt] rfl rfl (cell_one_new _ _ _) (by intro u hu; simp at hu; subst hu; rfl) (by decide) (by unfold maxLen; omega) (by omega) (by simp; omega) (w3.heap.size + 1) (by simp) ?_)
          intro g2 cap2 w1 hown1 hgrow hat hlt1
          have HU1 := hide (items_upd hgrow)
          have HO1 := hide hown1
          clear hown1 hgrow
          go_wp2
          go_roundw
          case rel => exact ⟨k + 1, by omega, rfl, HVT2.out, ⟨zs ++ [tt], by unfold RowT; rw [List.length_append, List.map_append]; exact HO1.out, HNM.out.snoc hlt (HTN.out HVD.out)⟩, grow_row HRT.out HB.out HU1.out⟩
          case measure => simp [intOf]; omega
    · have hke : k = ds.length := by omega
      subst hke
      clear hb hvt hrt hnm
      go_wp2
      go_ret2
      exact ⟨⟨_, ret_pair_bool (by rw [HR.out, ← varsT_end]; exact HVT.out.symm), fun _ => ⟨zs, HRT.out, by have := HNM.out; rwa [List.take_length] at this⟩⟩, HB.out⟩
end Go.Proofs.YtlobegpjenabaaaGreatDoor
