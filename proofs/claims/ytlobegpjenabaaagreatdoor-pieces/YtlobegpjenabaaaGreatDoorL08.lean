/- expr: variables. -/
import Derived.Test.YtlobegpjenabaaaGreatDoorL07
namespace Go.Proofs.YtlobegpjenabaaaGreatDoor
open Go.RowKit
set_option linter.unusedSimpArgs false
set_option linter.unusedVariables false

/-- A row of values that is read alone: it may begin anywhere in a block. -/
def RowQ (w : World) (v : Value) (vs : List Value) : Prop :=
  ∃ a cap, v = .slice a vs.length cap ∧ vs.length ≤ cap ∧ cap ≤ maxLen ∧ (0 < vs.length → ∃ g off, a = some ⟨g, off, none⟩ ∧ g < w.heap.size ∧ ∀ (j : Nat) u, vs[j]? = some u → w.cell? ⟨g, off + j, none⟩ = some u)
theorem RowI.q {B : Nat} {w : World} {v : Value} {vs : List Value} (h : RowI B w v vs) : RowQ w v vs := by
  obtain ⟨a, cap, hv, h1, h2, h3⟩ := ownsRow_slice h
  refine ⟨a, cap, hv, h1, h2, fun hp => ?_⟩
  obtain ⟨g, ha, _, hg, hc⟩ := h3 hp
  exact ⟨g, 0, ha, hg, fun j u hj => by rw [Nat.zero_add]; exact hc j u hj⟩
theorem RowQ.below {w w' : World} {v : Value} {vs : List Value} (h : RowQ w v vs) (hb : Below w.heap.size w w') : RowQ w' v vs := by
  obtain ⟨a, cap, hv, h1, h2, h3⟩ := h
  refine ⟨a, cap, hv, h1, h2, fun hp => ?_⟩
  obtain ⟨g, off, ha, hg, hc⟩ := h3 hp
  exact ⟨g, off, ha, Nat.lt_of_lt_of_le hg hb.size, fun j u hj => by rw [hb.cell (p := ⟨g, off + j, none⟩) hg]; exact hc j u hj⟩
theorem rowQ_at {n : Nat} {w : World} {v : Value} {vs : List Value} {ds : List D} (hrow : RowQ w v vs) (hds : IVs w n vs ds) : ∃ a cap, v = .slice a ds.length cap ∧ ds.length ≤ cap ∧ cap ≤ maxLen ∧
    ∀ k (hk : k < ds.length), ∃ g off, a = some ⟨g, off, none⟩ ∧ g < w.heap.size ∧ ∃ t x, IV w n (.iface t x) ds[k] ∧ w.cell? ⟨g, off + k, none⟩ = some (.iface t x) := by
  have hl := hds.length
  obtain ⟨a, cap, hv, h1, h2, h3⟩ := hrow
  rw [hl] at hv h1 h3
  refine ⟨a, cap, hv, h1, h2, fun k hk => ?_⟩
  obtain ⟨g, off, ha, hg, hc⟩ := h3 (by omega)
  obtain ⟨u, hu, hiv⟩ := hds.at k hk
  obtain ⟨t, x, rfl⟩ := IV.form _ _ _ hiv
  exact ⟨g, off, ha, hg, t, x, hiv, hc _ _ hu⟩

/-- A row of strings. -/
def RowT (B : Nat) (w : World) (v : Value) (zs : List ByteArray) : Prop := w.ownsRow B 9 1 v zs.length (zs.map .string)
theorem RowT.nil (B : Nat) (w : World) : RowT B w (.slice none 0 0) [] := World.ownsRow_nil _ _ _ _
theorem infoStr : (Tryz.prog.info? 9).map (fun i => (i.zero, i.size, i.bytes)) = some (some (.string ⟨#[]⟩), 1, 16) := by kernel_rfl

/-- slices.Contains of a row of strings. -/
theorem contains_row {B : Nat} {w : World} {v : Value} {zs : List ByteArray} (x : ByteArray) (h : RowT B w v zs) :
    Calls Tryz.prog 229 #[v, .string x] w fun e w' => e = .returned (.bool (Lib.containsS zs x)) ∧ w' = w := by
  obtain ⟨a, cap, rfl, h1, h2, h3⟩ := ownsRow_slice h
  rcases Nat.eq_zero_or_pos zs.length with h0 | hp
  · have : zs = [] := List.length_eq_zero_iff.1 h0
    subst this
    exact Tryz.slices_Contains_string_empty a cap x w
  · obtain ⟨g, rfl, _, hg, hc⟩ := h3 hp
    unfold maxLen at h2
    have := Tryz.slices_Contains_string g 0 zs.length cap zs x w (Nat.le_refl _) (by omega) (fun j hj => by rw [Nat.zero_add]; exact hc j _ (by simp [hj, List.getD_eq_getElem?_getD]))
    rwa [List.take_length] at this

theorem ret_pair_bool {u : Value} {a b : Bool} (h : a = b) : Ending.returned (.tuple #[u, .bool a]) = .returned (.tuple #[u, .bool b]) := by rw [h]
/-- The names of data. -/
def NmOf (zs : List ByteArray) (ds : List D) : Prop := zs.map (fun z => z.data.toList) = ds.map nameD
theorem NmOf.contains {zs : List ByteArray} {ds : List D} (h : NmOf zs ds) (x : ByteArray) : Lib.containsS zs x = (ds.map nameD).contains x.data.toList := by
  rw [Bool.eq_iff_iff, Lib.containsS_iff, ← h, List.contains_iff_mem, List.mem_map]
  constructor
  · intro hx; exact ⟨x, hx, rfl⟩
  · rintro ⟨z, hz, e⟩
    have : z = x := by cases z; cases x; congr 1; exact Array.toList_inj.1 e
    exact this ▸ hz
theorem NmOf.snoc {zs : List ByteArray} {ds : List D} {k : Nat} (hk : k < ds.length) (h : NmOf zs (ds.take k)) {t : ByteArray} (ht : t.data.toList = nameD ds[k]) : NmOf (zs ++ [t]) (ds.take (k + 1)) := by
  unfold NmOf at *
  rw [List.take_succ_eq_append_getElem hk, List.map_append, List.map_append, h]
  simp [ht]
theorem NmOf.length {zs : List ByteArray} {ds : List D} (h : NmOf zs ds) : zs.length = ds.length := by
  have := congrArg List.length h; simpa using this

theorem grow_row {w wr w1 : World} {v : Value} {e n : Nat} {xs : List Value} (hr : wr.ownsRow w.heap.size e 1 v n xs) (hb : Below w.heap.size w wr) (hu : Upd (fun k => v.ownBlock = some k) wr w1) : Below w.heap.size w w1 :=
  hb.trans (hu.below hb.size (by intro k hk; have := (ownsRow_ge hr hk).1; omega))

set_option maxRecDepth 100000 in
set_option maxHeartbeats 2000000 in
theorem ivariables_go (n : Nat) (vs : List Value) (ds : List D) (v : Value) (w : World) (hrow : RowQ w v vs) (hds : IVs w n vs ds) (hlen : ds.length ≤ 1000) (r : Bool) (HR : Hid (r = varsL [] ds)) :
    Calls Tryz.prog 208 #[v] w fun e w' => (∃ u, e = .returned (.tuple #[u, .bool r]) ∧ (r = true → ∃ zs, RowT w.heap.size w' u zs ∧ NmOf zs ds)) ∧ Below w.heap.size w w' := by
  obtain ⟨a, cap, rfl, hc1, hc2, hat⟩ := rowQ_at hrow hds
  have HAT := hide hat
  clear hat hrow hds
  unfold maxLen at hc2
  obtain ⟨i0, hi, hz0, hz1, hz2⟩ := info_parts infoStr
  have HI := hide (And.intro hi (And.intro hz0 (And.intro hz1 hz2)))
  clear hi hz0 hz1 hz2
  go_enter Tryz.func208, Tryz.ntmps208
  go_wp2
  go_loopw [4, 11] (fun u i wr => ∃ k : Nat, k ≤ ds.length ∧ i = .int .i64 k ∧ varsT ds k = true ∧ (∃ zs, RowT w.heap.size wr u zs ∧ NmOf zs (ds.take k)) ∧ Below w.heap.size w wr) (fun _ i _ => ds.length - (intOf i).toNat)
  case atStart => exact ⟨0, Nat.zero_le _, rfl, rfl, ⟨[], RowT.nil _ _, rfl⟩, Below.refl _ _⟩
  case round =>
    obtain ⟨k, hk, rfl, hvt, ⟨zs, hrt, hnm⟩, hb⟩ := hrel
    have HVT := hide hvt
    have HRT := hide hrt
    have HNM := hide hnm
    have HB := hide hb
    have hbs := hb.size
    have hzl : zs.length ≤ 1000 := by have := hnm.length; simp at this; omega
    by_cases hlt : k < ds.length
    · obtain ⟨g, off, rfl, hg, t, x, hiv, c0⟩ := HAT.out k hlt
      have d0 : wr.cell? ⟨g, off + k, none⟩ = some (.iface t x) := by rw [hb.cell (p := ⟨g, off + k, none⟩) hg]; exact c0
      have HIV := hide (IV.keep (Keep.of_below hb) _ _ _ hiv)
      clear hiv hb hvt hrt hnm c0
      go_wp2_with fail
      refine (ivariable_any n ds[k] (.iface t x) _ HIV.out).mono ?_
      rintro e w2 ⟨⟨tt, rfl, htn⟩, rfl⟩
      have HTN := hide htn
      clear htn
      cases hvd : varD ds[k] with
      | false =>
        have HFN := hide (varsT_no ds (k + 1) (by rw [varsT_step ds k hlt, hvd]; simp) (by omega))
        clear hvd
        go_wp2
        go_ret2
        exact ⟨⟨_, ret_pair_bool (by rw [HR.out, HFN.out]), fun h => by rw [HR.out, HFN.out] at h; cases h⟩, HB.out⟩
      | true =>
        have HVD := hide hvd
        clear hvd
        go_wp2_with fail
        refine (contains_row tt HRT.out).mono ?_
        rintro e w3 ⟨rfl, rfl⟩
        have HCT := hide (HNM.out.contains tt)
        cases hct : Lib.containsS zs tt with
        | true =>
          have HFN := hide (varsT_no ds (k + 1) (by
            rw [varsT_step ds k hlt, HVD.out]
            have h1 := HCT.out
            rw [hct, HTN.out HVD.out] at h1
            unfold freshT; rw [getD_at ds k hlt, ← h1]; simp) (by omega))
          clear hct
          go_wp2
          go_ret2
          exact ⟨⟨_, ret_pair_bool (by rw [HR.out, HFN.out]), fun h => by rw [HR.out, HFN.out] at h; cases h⟩, HB.out⟩
        | false =>
          have HVT2 := hide (show varsT ds (k + 1) = true from by
            rw [varsT_step ds k hlt, HVT.out, HVD.out]
            have h1 := HCT.out
            rw [hct, HTN.out HVD.out] at h1
            unfold freshT; rw [getD_at ds k hlt, ← h1]; rfl)
          clear hct
          go_wp2_with (at_builtin; refine wpList_append_lies _ rfl (.tmp 27) (.tmp 29) 26 rfl w.heap.size 9 i0 (.string ⟨#[]⟩) 1 16 Tryz.underlying26 HI.out.1 HI.out.2.1 HI.out.2.2.1 HI.out.2.2.2 rfl (by decide) _ zs.length (zs.map .string) rfl (HRT.out.alloc _) ⟨w3.heap.size, 0, none⟩ 1 1 [.string tt] rfl rfl (cell_one_new _ _ _) (by intro u hu; simp at hu; subst hu; rfl) (by decide) (by unfold maxLen; omega) (by omega) (by simp; omega) (w3.heap.size + 1) (by simp) ?_)
          intro g2 cap2 w1 hown1 hgrow hat hlt1
          have HU1 := hide (items_upd hgrow)
          have HO1 := hide hown1
          clear hown1 hgrow
          go_wp2
          go_roundw
          case rel => exact ⟨k + 1, by omega, rfl, HVT2.out, ⟨zs ++ [tt], by unfold RowT; rw [List.length_append, List.map_append]; exact HO1.out, HNM.out.snoc hlt (HTN.out HVD.out)⟩, grow_row HRT.out HB.out HU1.out⟩
          case measure => simp [intOf]; omega
    · have hke : k = ds.length := by omega
      subst hke
      clear hb hvt hrt hnm
      go_wp2
      go_ret2
      exact ⟨⟨_, ret_pair_bool (by rw [HR.out, ← varsT_end]; exact HVT.out.symm), fun _ => ⟨zs, HRT.out, by have := HNM.out; rwa [List.take_length] at this⟩⟩, HB.out⟩
end Go.Proofs.YtlobegpjenabaaaGreatDoor

/- expr: split. -/
namespace Go.Proofs.YtlobegpjenabaaaGreatDoor
open Go.RowKit
set_option linter.unusedSimpArgs false
set_option linter.unusedVariables false

def bFst (b : D) : D := (itemsD b).getD 0 (num 0)
def bSnd (b : D) : D := (itemsD b).getD 1 (lst [])
def bOk (b : D) : Bool := isList b && decide ((itemsD b).length = 2)

theorem RowI.notPair {B : Nat} {w : World} {v : Value} {vs : List Value} (h : RowI B w v vs) : ∀ (k : Nat) c, v.ownBlock = some k → ¬ w.heap[k]? = some (Obj.cells c 205 (0, 0)) := by
  intro k c hk
  rcases h.2 with ⟨hv, _⟩ | ⟨g', cap, cu, hv, hb, hh, r⟩
  · rw [hv] at hk; cases hk
  · rw [hv] at hk; cases hk; rw [hh]; simp
theorem RowI.upd_keep {B : Nat} {w w1 : World} {v : Value} {vs : List Value} (h : RowI B w v vs) (hu : Upd (fun k => v.ownBlock = some k) w w1) : Keep 205 w w1 := Keep.of_upd hu (fun k c hk => h.notPair k c hk)
theorem RowI.below {B : Nat} {w w' : World} {v : Value} {vs : List Value} (h : RowI B w v vs) (hb : Below w.heap.size w w') : RowI B w' v vs := ownsRow_of_upd h (Upd.of_below (fun _ => False) hb) (fun _ _ h => h)

theorem ret_tri_bool {u v : Value} {a b : Bool} (h : a = b) : Ending.returned (.tuple #[u, v, .bool a]) = .returned (.tuple #[u, v, .bool b]) := by rw [h]
/-- At a round's head of split. -/
def SplitRel (w : World) (n : Nat) (ds : List D) (u2 u3 : Value) (wr : World) (k : Nat) : Prop :=
  (∃ xs ys, RowI w.heap.size wr u2 xs ∧ IVs wr n xs ((ds.take k).map bFst) ∧ RowI w.heap.size wr u3 ys ∧ IVs wr n ys ((ds.take k).map bSnd)) ∧ (∀ g, u2.ownBlock = some g → ¬ u3.ownBlock = some g) ∧ Below w.heap.size w wr ∧ (∀ j (hj : j < ds.length), j < k → bOk ds[j] = true)

theorem all_no (ds : List D) (k : Nat) (hk : k < ds.length) (h : bOk ds[k] = false) : ds.all bOk = false := by
  rw [Bool.eq_false_iff]
  intro ha
  rw [List.all_eq_true] at ha
  have := ha ds[k] (List.getElem_mem hk)
  rw [h] at this; cases this
theorem all_yes (ds : List D) (h : ∀ j (hj : j < ds.length), bOk ds[j] = true) : ds.all bOk = true := by
  rw [List.all_eq_true]
  intro d hd
  obtain ⟨j, hj, rfl⟩ := List.getElem_of_mem hd
  exact h j hj

theorem split_round {w wr w2 w4 w5 : World} {n k : Nat} {ds : List D} {u2 u3 : Value} {xs ys : List Value} {g4 g5 c4 c5 : Nat} {x1 x2 : Value} (hk : k < ds.length)
    (hr2 : RowI w.heap.size wr u2 xs) (hx : IVs wr n xs ((ds.take k).map bFst)) (hr3 : RowI w.heap.size wr u3 ys) (hy : IVs wr n ys ((ds.take k).map bSnd)) (hne : ∀ g, u2.ownBlock = some g → ¬ u3.ownBlock = some g) (hb : Below w.heap.size w wr) (hok : ∀ j (hj : j < ds.length), j < k → bOk ds[j] = true)
    (hb2 : Below wr.heap.size wr w2) (hd1 : IV w2 n x1 (bFst ds[k])) (hd2 : IV w2 n x2 (bSnd ds[k])) (ho : bOk ds[k] = true)
    (hu4 : Upd (fun k => u2.ownBlock = some k) w2 w4) (ho4 : w4.ownsRow w.heap.size 81 1 (.slice (some ⟨g4, 0, none⟩) (xs.length + 1) c4) (xs.length + 1) (xs ++ [x1])) (hg4 : u2.ownBlock = some g4 ∨ wr.heap.size ≤ g4) (hl4 : g4 < w4.heap.size)
    (hu5 : Upd (fun k => u3.ownBlock = some k) w4 w5) (ho5 : w5.ownsRow w.heap.size 81 1 (.slice (some ⟨g5, 0, none⟩) (ys.length + 1) c5) (ys.length + 1) (ys ++ [x2])) (hg5 : u3.ownBlock = some g5 ∨ w4.heap.size ≤ g5) :
    SplitRel w n ds (.slice (some ⟨g4, 0, none⟩) (xs.length + 1) c4) (.slice (some ⟨g5, 0, none⟩) (ys.length + 1) c5) w5 (k + 1) := by
  have k2 : Keep 205 wr w2 := Keep.of_below hb2
  have k4 : Keep 205 w2 w4 := (hr2.below hb2).upd_keep hu4
  have hr34 : RowI w.heap.size w4 u3 ys := ownsRow_of_upd (hr3.below hb2) hu4 (fun g h3 h2 => hne g h2 h3)
  have k5 : Keep 205 w4 w5 := hr34.upd_keep hu5
  have k45 := k4.trans k5
  have k25 := k2.trans k45
  have hlt3 : ∀ g, u3.ownBlock = some g → g < wr.heap.size := fun g h => (ownsRow_ge hr3 h).2
  have h45 : ¬ u3.ownBlock = some g4 := by
    intro h
    rcases hg4 with h4 | h4
    · exact hne g4 h4 h
    · have := hlt3 g4 h; omega
  have hrow4 : RowI w.heap.size w5 (.slice (some ⟨g4, 0, none⟩) (xs.length + 1) c4) (xs ++ [x1]) := by
    unfold RowI; rw [List.length_append]
    exact ownsRow_of_upd ho4 hu5 (fun g hg h => by cases hg; exact h45 h)
  refine ⟨⟨xs ++ [x1], ys ++ [x2], hrow4, ?_, by unfold RowI; rw [List.length_append]; exact ho5, ?_⟩, ?_, ?_, ?_⟩
  · rw [List.take_succ_eq_append_getElem hk, List.map_append]
    exact IVs.append (IVs.keep k25 n _ _ hx) ⟨IV.keep k45 _ _ _ hd1, trivial⟩
  · rw [List.take_succ_eq_append_getElem hk, List.map_append]
    exact IVs.append (IVs.keep k25 n _ _ hy) ⟨IV.keep k45 _ _ _ hd2, trivial⟩
  · intro g h1 h2
    cases h1
    cases h2
    rcases hg5 with h5 | h5
    · exact h45 h5
    · omega
  · have hw2 : Below w.heap.size w w2 := hb.trans (hb2.mono hb.size)
    have hw4 : Below w.heap.size w w4 := hw2.trans (hu4.below hw2.size (by intro j hj; exact (ownsRow_ge hr2 hj).1))
    exact hw4.trans (hu5.below hw4.size (by intro j hj; exact (ownsRow_ge hr3 hj).1))
  · intro j hj hjk
    rcases Nat.lt_or_eq_of_le (Nat.le_of_lt_succ hjk) with h | h
    · exact hok j hj h
    · subst h; exact ho

set_option maxRecDepth 100000 in
set_option maxHeartbeats 2000000 in
theorem split_go (n : Nat) (vs : List Value) (ds : List D) (v : Value) (w : World) (hrow : RowQ w v vs) (hds : IVs w (n + 1) vs ds) (hlen : ds.length ≤ 1000) (r : Bool) (HR : Hid (r = ds.all bOk)) :
    Calls Tryz.prog 149 #[v] w fun e w' => (∃ u2 u3 xs ys, e = .returned (.tuple #[u2, u3, .bool r]) ∧ RowI w.heap.size w' u2 xs ∧ RowI w.heap.size w' u3 ys ∧ (r = true → IVs w' n xs (ds.map bFst) ∧ IVs w' n ys (ds.map bSnd)) ∧ (r = false → xs = [] ∧ ys = [])) ∧ Below w.heap.size w w' := by
  obtain ⟨a, cap, rfl, hc1, hc2, hat⟩ := rowQ_at hrow hds
  have HAT := hide hat
  clear hat hrow hds
  unfold maxLen at hc2
  obtain ⟨i0, hi, hz0, hz1, hz2⟩ := info_parts infoVal
  have HI := hide (And.intro hi (And.intro hz0 (And.intro hz1 hz2)))
  clear hi hz0 hz1 hz2
  go_enter Tryz.func149, Tryz.ntmps149
  go_wp2
  go_loopw [2, 3, 11] (fun u2 u3 i wr => ∃ k : Nat, k ≤ ds.length ∧ i = .int .i64 k ∧ SplitRel w n ds u2 u3 wr k) (fun _ _ i _ => ds.length - (intOf i).toNat)
  case atStart => exact ⟨0, Nat.zero_le _, rfl, ⟨[], [], RowI.nil _ _, trivial, RowI.nil _ _, trivial⟩, fun g h => (by cases h), Below.refl _ _, fun j _ h => absurd h (by omega)⟩
  case round =>
    obtain ⟨k, hk, rfl, ⟨xs, ys, hr2, hx, hr3, hy⟩, hne, hb, hok⟩ := hrel
    have hbs := hb.size
    have hxl : xs.length ≤ 1000 := by have := hx.length; simp at this; omega
    have hyl : ys.length ≤ 1000 := by have := hy.length; simp at this; omega
    have H2 := hide hr2
    have HX := hide hx
    have H3 := hide hr3
    have HY := hide hy
    have HNE := hide hne
    have HB := hide hb
    have HOK := hide hok
    by_cases hlt : k < ds.length
    · obtain ⟨g, off, rfl, hg, t, x, hiv, c0⟩ := HAT.out k hlt
      have d0 : wr.cell? ⟨g, off + k, none⟩ = some (.iface t x) := by rw [hb.cell (p := ⟨g, off + k, none⟩) hg]; exact c0
      have HIV := hide (IV.keep (Keep.of_below hb) _ _ _ hiv)
      clear hiv hb c0 hr2 hx hr3 hy hne hok
      go_wp2_with fail
      refine (iitems_any n ds[k] (.iface t x) _ HIV.out).mono ?_
      rintro e w2 ⟨v2, vs2, rfl, hrow2, hvs2, hb2⟩
      obtain ⟨a2, cap2, rfl, hd1, hd2, hat2⟩ := ownsRow_slice hrow2
      have hl2 := hvs2.length
      have hb2s := hb2.size
      have HR2 := hide hrow2
      have HV2 := hide hvs2
      have HB2 := hide hb2
      have HAT2 := hide hat2
      clear hrow2 hvs2 hb2 hat2
      unfold maxLen at hd2
      cases hil : isList ds[k] with
      | false =>
        have HFN := hide (all_no ds k hlt (by unfold bOk; rw [hil]; rfl))
        clear hil
        go_wp2
        go_ret3
        exact ⟨⟨_, _, [], [], ret_tri_bool (by rw [HR.out, HFN.out]), RowI.nil _ _, RowI.nil _ _, (fun h => by rw [HR.out, HFN.out] at h; cases h), fun _ => ⟨rfl, rfl⟩⟩, HB.out.trans (HB2.out.mono HB.out.size)⟩
      | true =>
        by_cases h2 : vs2.length = 2
        · have hi2 : (itemsD ds[k]).length = 2 := by rw [← hl2]; exact h2
          obtain ⟨g2, rfl, _, hg2, hc⟩ := HAT2.out (by omega)
          obtain ⟨y1, hy1, hv1⟩ := HV2.out.at 0 (by omega)
          obtain ⟨y2, hy2, hv2⟩ := HV2.out.at 1 (by omega)
          obtain ⟨t1, x1, rfl⟩ := IV.form _ _ _ hv1
          obtain ⟨t2, x2, rfl⟩ := IV.form _ _ _ hv2
          have e1 := hc 0 _ hy1
          have HBO := hide (show bOk ds[k] = true from by unfold bOk; rw [hil, hi2]; rfl)
          have HV1 := hide (show IV w2 n (.iface t1 x1) (bFst ds[k]) from by unfold bFst; rw [List.getD_eq_getElem?_getD, List.getElem?_eq_getElem (by omega)]; exact hv1)
          have HV22 := hide (show IV w2 n (.iface t2 x2) (bSnd ds[k]) from by unfold bSnd; rw [List.getD_eq_getElem?_getD, List.getElem?_eq_getElem (by omega)]; exact hv2)
          have HY2 := hide hy2
          have HR22 := HR2
          clear hi2 hl2 hy1 hy2 hv1 hv2 hil hc
          rw [h2] at hd1
          rw [h2]
          go_wp2_with (at_builtin; refine wpList_append_lies _ rfl (.tmp 27) (.tmp 31) 76 rfl w.heap.size 81 i0 .nilIface 1 16 Tryz.underlying76 HI.out.1 HI.out.2.1 HI.out.2.2.1 HI.out.2.2.2 rfl (by decide) _ xs.length xs rfl ((H2.out.below HB2.out).alloc _) ⟨w2.heap.size, 0, none⟩ 1 1 [.iface t1 x1] rfl rfl (cell_one_new _ _ _) (by intro u hu; simp at hu; subst hu; rfl) (by decide) (by unfold maxLen; omega) (by omega) (by simp; omega) (w2.heap.size + 1) (by simp) ?_)
          intro g4 c4 w4 ho4 hgr4 hat4 hlt4
          have hu4 := items_upd hgr4
          have hs4 := hu4.size
          have hrow24 := ownsRow_of_upd HR2.out hu4 (fun g hg h => by have h1 := (ownsRow_ge H2.out h).2; have h3 := (ownsRow_ge HR2.out hg).1; omega)
          have hr34 := ownsRow_of_upd (H3.out.below HB2.out) hu4 (fun g h3 h2 => HNE.out g h2 h3)
          have e2 : w4.cell? ⟨g2, 1, none⟩ = some (.iface t2 x2) := by
            obtain ⟨a', cap', hv', _, _, hat'⟩ := ownsRow_slice hrow24
            obtain ⟨g', ha', _, _, hc'⟩ := hat' (by omega)
            cases hv'
            cases ha'
            exact hc' 1 _ HY2.out
          have HU4 := hide hu4
          have HO4 := hide ho4
          have HR34 := hide hr34
          have HG4 := hide (show u2.ownBlock = some g4 ∨ wr.heap.size ≤ g4 from hat4.imp id (fun h => by omega))
          clear hu4 ho4 hgr4 hat4 hrow24 hr34 e1
          go_wp2_with (at_builtin; refine wpList_append_lies _ rfl (.tmp 33) (.tmp 37) 76 rfl w.heap.size 81 i0 .nilIface 1 16 Tryz.underlying76 HI.out.1 HI.out.2.1 HI.out.2.2.1 HI.out.2.2.2 rfl (by decide) _ ys.length ys rfl (HR34.out.alloc _) ⟨w4.heap.size, 0, none⟩ 1 1 [.iface t2 x2] rfl rfl (cell_one_new _ _ _) (by intro u hu; simp at hu; subst hu; rfl) (by decide) (by unfold maxLen; omega) (by omega) (by simp; omega) (w4.heap.size + 1) (by simp) ?_)
          intro g5 c5 w5 ho5 hgr5 hat5 hlt5
          have HU5 := hide (items_upd hgr5)
          have HO5 := hide ho5
          have HG5 := hide (show u3.ownBlock = some g5 ∨ w4.heap.size ≤ g5 from hat5.imp id (fun h => by omega))
          clear ho5 hgr5 hat5
          go_wp2
          go_roundw
          case rel => exact ⟨k + 1, by omega, rfl, split_round hlt H2.out HX.out H3.out HY.out HNE.out HB.out HOK.out HB2.out HV1.out HV22.out HBO.out HU4.out HO4.out HG4.out hlt4 HU5.out HO5.out HG5.out⟩
          case measure => simp [intOf]; omega
        · have HFN := hide (all_no ds k hlt (by unfold bOk; rw [← hl2]; simp [h2]))
          have b2 : ((vs2.length : Int) != 2) = true := by simp; omega
          clear hil hl2
          go_wp2
          go_ret3
          exact ⟨⟨_, _, [], [], ret_tri_bool (by rw [HR.out, HFN.out]), RowI.nil _ _, RowI.nil _ _, (fun h => by rw [HR.out, HFN.out] at h; cases h), fun _ => ⟨rfl, rfl⟩⟩, HB.out.trans (HB2.out.mono HB.out.size)⟩
    · have hke : k = ds.length := by omega
      subst hke
      clear hb hr2 hx hr3 hy hne hok
      have HAL := hide (all_yes ds (fun j hj => HOK.out j hj hj))
      go_wp2
      go_ret3
      exact ⟨⟨_, _, xs, ys, ret_tri_bool (by rw [HR.out, HAL.out]), H2.out, H3.out, fun _ => ⟨by have := HX.out; rwa [List.take_length] at this, by have := HY.out; rwa [List.take_length] at this⟩, fun h => by rw [HR.out, HAL.out] at h; cases h⟩, HB.out⟩
end Go.Proofs.YtlobegpjenabaaaGreatDoor

/- Expressions of the program as terms; expressions in memory. -/
namespace Go.Proofs.YtlobegpjenabaaaGreatDoor
open Go.RowKit
set_option linter.unusedSimpArgs false
set_option linter.unusedVariables false

/-- An expression. -/
inductive E where
  | const (d : D)
  | nothing
  | var (s : List UInt8)
  | ite (a b c : E)
  | define (s : List UInt8) (a : E)
  | set (s : List UInt8) (a : E)
  | lambda (nm : List UInt8) (xs : List (List UInt8)) (a : E)
  | seq (es : List E)
  | apply (es : List E)

mutual
/-- How much an expression weighs. -/
def wtE : E → Nat
  | .const _ => 1
  | .nothing => 1
  | .var s => s.length + 1
  | .ite a b c => wtE a + wtE b + wtE c + 1
  | .define s a => wtE a + s.length + 1
  | .set s a => wtE a + s.length + 1
  | .lambda _ xs a => wtE a + (xs.map (fun s => s.length + 1)).sum + 1
  | .seq es => wtEs es + 1
  | .apply es => wtEs es + 1
def wtEs : List E → Nat
  | [] => 0
  | e :: r => wtE e + wtEs r
end

/-- All of them, or none. -/
def eachS (f : D → Option E) : List D → Option (List E)
  | [] => some []
  | d :: r => match f d with
    | some e => match eachS f r with
      | some es => some (e :: es)
      | none => none
    | none => none
/-- A sequence. -/
def seqS : List E → Option E
  | [] => none
  | [e] => some e
  | es => some (.seq es)
def bodyS (f : D → Option E) (ds : List D) : Option E := (eachS f ds).bind seqS
/-- A procedure of these names. -/
def procS (f : D → Option E) (nd ds : List D) : Option E := if varsL [] nd then (bodyS f ds).map (.lambda [] (nd.map nameD)) else none
/-- A lambda knows its name. -/
def asS (s : List UInt8) : E → E
  | .lambda _ xs a => .define s (.lambda s xs a)
  | e => .define s e
def ifS : List E → Option E
  | [a, b] => some (.ite a b .nothing)
  | [a, b, c] => some (.ite a b c)
  | _ => none
def nvS (f : D → Option E) (mk : List UInt8 → E → E) : List D → Option E
  | [x, a] => if varD x then (f a).map (mk (nameD x)) else none
  | _ => none
def lamS (f : D → Option E) : List D → Option E
  | d :: ds => if isList d then procS f (itemsD d) ds else none
  | [] => none
def dfpS (f : D → Option E) (hd ds : List D) : Option E := match hd with
  | x :: xs => if varD x then (procS f xs ds).map (asS (nameD x)) else none
  | [] => none
def defS (f : D → Option E) : List D → Option E
  | d :: ds => if isList d then dfpS f (itemsD d) ds else nvS f asS (d :: ds)
  | [] => none
def letS (f : D → Option E) : List D → Option E
  | d :: ds => if isList d && (itemsD d).all bOk then (match procS f ((itemsD d).map bFst) ds, eachS f ((itemsD d).map bSnd) with
      | some p, some es => some (.apply (p :: es))
      | _, _ => none) else none
  | [] => none
def quoS : List D → Option E
  | [d] => some (.const d)
  | _ => none

/-- The expression that a datum is. -/
def exprS : Nat → D → Option E
  | 0, _ => none
  | n + 1, .agg l =>
    if headK l = [113, 117, 111, 116, 101] then quoS l.tail
    else if headK l = [105, 102] then (eachS (exprS n) l.tail).bind ifS
    else if headK l = [115, 101, 116, 33] then nvS (exprS n) .set l.tail
    else if headK l = [108, 97, 109, 98, 100, 97] then lamS (exprS n) l.tail
    else if headK l = [98, 101, 103, 105, 110] then bodyS (exprS n) l.tail
    else if headK l = [100, 101, 102, 105, 110, 101] then defS (exprS n) l.tail
    else if headK l = [108, 101, 116] then letS (exprS n) l.tail
    else if l.isEmpty then none else (eachS (exprS n) l).map .apply
  | _ + 1, .lit (.string s) => if kwB s then none else some (.var s)
  | _ + 1, d => some (.const d)

/-- A row of expressions, or of names, whose block is one of P's. -/
def RowE (w : World) (P : Nat → Prop) (u : Value) (es : List Value) : Prop := w.ownsRow 0 83 1 u es.length es ∧ ∀ g, u.ownBlock = some g → P g
def RowN (w : World) (P : Nat → Prop) (u : Value) (zs : List ByteArray) : Prop := w.ownsRow 0 9 1 u zs.length (zs.map .string) ∧ ∀ g, u.ownBlock = some g → P g
/-- The bytes of names. -/
def bytesOf (zs : List ByteArray) : List (List UInt8) := zs.map fun z => z.data.toList

mutual
/-- An expression in memory; its rows lie in blocks of P. -/
inductive EV (w : World) (P : Nat → Prop) : E → Value → Prop
  | const (n : Nat) (t : TypeId) (x : Value) (d : D) : IV w n (.iface t x) d → EV w P (.const d) (.iface 133 (.agg #[.iface t x]))
  | nothing : EV w P .nothing (.iface 133 (.agg #[.iface 259 (.agg #[])]))
  | var (s : ByteArray) : EV w P (.var s.data.toList) (.iface 202 (.agg #[.string s]))
  | ite {e1 e2 e3 : E} {a b c : Value} : EV w P e1 a → EV w P e2 b → EV w P e3 c → EV w P (.ite e1 e2 e3) (.iface 261 (.agg #[a, b, c]))
  | define {e : E} {a : Value} (s : ByteArray) : EV w P e a → EV w P (.define s.data.toList e) (.iface 279 (.agg #[.string s, a]))
  | set {e : E} {a : Value} (s : ByteArray) : EV w P e a → EV w P (.set s.data.toList e) (.iface 267 (.agg #[.string s, a]))
  | lambda {e : E} {a u : Value} {zs : List ByteArray} (nm : ByteArray) : RowN w P u zs → EV w P e a → EV w P (.lambda nm.data.toList (bytesOf zs) e) (.iface 277 (.agg #[.string nm, u, a]))
  | seq {ks : List E} {u : Value} {es : List Value} : RowE w P u es → 2 ≤ es.length → EVs w P ks es → EV w P (.seq ks) (.iface 269 (.agg #[u]))
  | apply {ks : List E} {u : Value} {es : List Value} : RowE w P u es → 1 ≤ es.length → EVs w P ks es → EV w P (.apply ks) (.iface 273 (.agg #[u]))
inductive EVs (w : World) (P : Nat → Prop) : List E → List Value → Prop
  | nil : EVs w P [] []
  | cons {k : E} {ks : List E} {e : Value} {es : List Value} : EV w P k e → EVs w P ks es → EVs w P (k :: ks) (e :: es)
end

theorem RowE.imp {w w' : World} {P P' : Nat → Prop} {u : Value} {es : List Value} (hk : ∀ (g : Nat) (o : Obj), P g → w.heap[g]? = some o → w'.heap[g]? = some o ∧ P' g) (h : RowE w P u es) : RowE w' P' u es := by
  obtain ⟨⟨h1, h2⟩, h3⟩ := h
  rcases h2 with ⟨hv, h0⟩ | ⟨g, cap, cu, hv, hg, hh, r⟩
  · refine ⟨⟨h1, Or.inl ⟨hv, h0⟩⟩, fun g hg => ?_⟩
    rw [hv] at hg; cases hg
  · have hp := hk g _ (h3 g (by rw [hv]; rfl)) hh
    refine ⟨⟨h1, Or.inr ⟨g, cap, cu, hv, hg, hp.1, r⟩⟩, fun g' hg' => ?_⟩
    rw [hv] at hg'; cases hg'; exact hp.2
theorem RowN.imp {w w' : World} {P P' : Nat → Prop} {u : Value} {zs : List ByteArray} (hk : ∀ (g : Nat) (o : Obj), P g → w.heap[g]? = some o → w'.heap[g]? = some o ∧ P' g) (h : RowN w P u zs) : RowN w' P' u zs := by
  obtain ⟨⟨h1, h2⟩, h3⟩ := h
  rcases h2 with ⟨hv, h0⟩ | ⟨g, cap, cu, hv, hg, hh, r⟩
  · refine ⟨⟨h1, Or.inl ⟨hv, h0⟩⟩, fun g hg => ?_⟩
    rw [hv] at hg; cases hg
  · have hp := hk g _ (h3 g (by rw [hv]; rfl)) hh
    refine ⟨⟨h1, Or.inr ⟨g, cap, cu, hv, hg, hp.1, r⟩⟩, fun g' hg' => ?_⟩
    rw [hv] at hg'; cases hg'; exact hp.2

mutual
theorem EV.imp {w w' : World} {P P' : Nat → Prop} (kp : Keep 205 w w') (hk : ∀ (g : Nat) (o : Obj), P g → w.heap[g]? = some o → w'.heap[g]? = some o ∧ P' g) : ∀ {n : E} {v : Value}, EV w P n v → EV w' P' n v
  | _, _, .const n t x d h => .const n t x d (IV.keep kp _ _ _ h)
  | _, _, .nothing => .nothing
  | _, _, .var s => .var s
  | _, _, .ite a b c => .ite (EV.imp kp hk a) (EV.imp kp hk b) (EV.imp kp hk c)
  | _, _, .define s a => .define s (EV.imp kp hk a)
  | _, _, .set s a => .set s (EV.imp kp hk a)
  | _, _, .lambda nm r a => .lambda nm (r.imp hk) (EV.imp kp hk a)
  | _, _, .seq r h a => .seq (r.imp hk) h (EVs.imp kp hk a)
  | _, _, .apply r h a => .apply (r.imp hk) h (EVs.imp kp hk a)
theorem EVs.imp {w w' : World} {P P' : Nat → Prop} (kp : Keep 205 w w') (hk : ∀ (g : Nat) (o : Obj), P g → w.heap[g]? = some o → w'.heap[g]? = some o ∧ P' g) : ∀ {n : List E} {es : List Value}, EVs w P n es → EVs w' P' n es
  | _, _, .nil => .nil
  | _, _, .cons a b => .cons (EV.imp kp hk a) (EVs.imp kp hk b)
end

theorem EVs.append {w : World} {P : Nat → Prop} {n m : List E} {es fs : List Value} (h : EVs w P n es) (k : EVs w P m fs) : EVs w P (n ++ m) (es ++ fs) := by
  induction es generalizing n with
  | nil => cases h; exact k
  | cons e r ih =>
    cases h with
    | cons a b => exact .cons a (ih b)
theorem EVs.length {w : World} {P : Nat → Prop} {n : List E} {es : List Value} (h : EVs w P n es) : n.length = es.length := by
  induction es generalizing n with
  | nil => cases h; rfl
  | cons e r ih =>
    cases h with
    | cons a b => simp [ih b]
theorem EV.form {w : World} {P : Nat → Prop} {n : E} {v : Value} (h : EV w P n v) : ∃ t x, v = .iface t x := by cases h <;> exact ⟨_, _, rfl⟩
theorem EV.kept {w w' : World} {P P' : Nat → Prop} {n : E} {v : Value} (h : EV w P n v) (hb : Below w.heap.size w w') (hp : ∀ g, P g → g < w.heap.size → P' g) : EV w' P' n v :=
  h.imp (Keep.of_below hb) fun g o hg ho => ⟨by rw [hb.block g (lt_of_some ho)]; exact ho, hp g hg (lt_of_some ho)⟩
theorem EVs.kept {w w' : World} {P P' : Nat → Prop} {n : List E} {v : List Value} (h : EVs w P n v) (hb : Below w.heap.size w w') (hp : ∀ g, P g → g < w.heap.size → P' g) : EVs w' P' n v :=
  h.imp (Keep.of_below hb) fun g o hg ho => ⟨by rw [hb.block g (lt_of_some ho)]; exact ho, hp g hg (lt_of_some ho)⟩
theorem eachS_snoc (f : D → Option E) : ∀ (ds : List D) (d : D) (ks : List E) (k : E), eachS f ds = some ks → f d = some k → eachS f (ds ++ [d]) = some (ks ++ [k])
  | [], d, ks, k, h, hk => by cases h; simp [eachS, hk]
  | a :: r, d, ks, k, h, hk => by
    simp only [eachS] at h
    split at h
    · rename_i e he
      split at h
      · rename_i es hes
        cases h
        simp only [List.cons_append, eachS, he, eachS_snoc f r d es k hes hk]
      · cases h
    · cases h
theorem eachS_take (f : D → Option E) (ds : List D) (k : Nat) (hk : k < ds.length) (ks : List E) (e : E) (h : eachS f (ds.take k) = some ks) (he : f ds[k] = some e) : eachS f (ds.take (k + 1)) = some (ks ++ [e]) := by
  rw [List.take_succ_eq_append_getElem hk]; exact eachS_snoc f _ _ _ _ h he
end Go.Proofs.YtlobegpjenabaaaGreatDoor

/- expr: each, given Of; with the expressions as terms. -/
namespace Go.Proofs.YtlobegpjenabaaaGreatDoor
open Go.RowKit
set_option linter.unusedSimpArgs false
set_option linter.unusedVariables false

/-- What a call that makes an expression with Q comes to. -/
def OfPost (w : World) (Q : E → Prop) (r : Bool) (e : Ending) (w' : World) : Prop :=
  (∃ u, e = .returned (.tuple #[u, .bool r]) ∧ (r = true → ∃ k, Q k ∧ EV w' (fun g => w.heap.size ≤ g) k u)) ∧ Below w.heap.size w w'
def OfC (n : Nat) : Prop := ∀ (d : D) (v : Value) (w : World) (r : Bool), IV w n v d → Hid (r = exprF n d) → Calls Tryz.prog 40 #[v] w (OfPost w (fun k => exprS n d = some k) r)
/-- What a call of each comes to. -/
def EachPost (w : World) (n : Nat) (ds : List D) (r : Bool) (e : Ending) (w' : World) : Prop :=
  (∃ u, e = .returned (.tuple #[u, .bool r]) ∧ (r = false → u = .slice none 0 0) ∧ (r = true → ∃ es k, eachS (exprS n) ds = some k ∧ es.length = ds.length ∧ w'.ownsRow w.heap.size 83 1 u es.length es ∧ EVs w' (fun g => w.heap.size ≤ g ∧ ¬ u.ownBlock = some g) k es)) ∧ Below w.heap.size w w'

theorem infoE : (Tryz.prog.info? 83).map (fun i => (i.zero, i.size, i.bytes)) = some (some .nilIface, 1, 16) := by kernel_rfl

/-- At a round's head of each. -/
def EachRel (w : World) (n : Nat) (ds : List D) (u : Value) (wr : World) (k : Nat) : Prop :=
  (∃ es m, eachS (exprS n) (ds.take k) = some m ∧ es.length = k ∧ wr.ownsRow w.heap.size 83 1 u es.length es ∧ EVs wr (fun g => w.heap.size ≤ g ∧ ¬ u.ownBlock = some g) m es) ∧ Below w.heap.size w wr ∧ (∀ j (hj : j < ds.length), j < k → exprF n ds[j] = true)

theorem allE_no {f : D → Bool} (ds : List D) (k : Nat) (hk : k < ds.length) (h : f ds[k] = false) : ds.all f = false := by
  rw [Bool.eq_false_iff]
  intro ha
  rw [List.all_eq_true] at ha
  have := ha ds[k] (List.getElem_mem hk)
  rw [h] at this; cases this
theorem allE_yes {f : D → Bool} (ds : List D) (h : ∀ j (hj : j < ds.length), f ds[j] = true) : ds.all f = true := by
  rw [List.all_eq_true]
  intro d hd
  obtain ⟨j, hj, rfl⟩ := List.getElem_of_mem hd
  exact h j hj

theorem each_round {w wr w2 w4 : World} {n k : Nat} {m : List E} {m2 : E} {ds : List D} {u x : Value} {es : List Value} {g4 c4 : Nat} (hk : k < ds.length) (hm : eachS (exprS n) (ds.take k) = some m) (hes : es.length = k)
    (hr : wr.ownsRow w.heap.size 83 1 u es.length es) (he : EVs wr (fun g => w.heap.size ≤ g ∧ ¬ u.ownBlock = some g) m es) (hb : Below w.heap.size w wr) (hok : ∀ j (hj : j < ds.length), j < k → exprF n ds[j] = true)
    (hb2 : Below wr.heap.size wr w2) (hm2 : exprS n ds[k] = some m2) (hx : EV w2 (fun g => wr.heap.size ≤ g) m2 x) (hokk : exprF n ds[k] = true)
    (hu4 : Upd (fun k => u.ownBlock = some k) w2 w4) (ho4 : w4.ownsRow w.heap.size 83 1 (.slice (some ⟨g4, 0, none⟩) (es.length + 1) c4) (es.length + 1) (es ++ [x])) (hg4 : u.ownBlock = some g4 ∨ w2.heap.size ≤ g4) :
    EachRel w n ds (.slice (some ⟨g4, 0, none⟩) (es.length + 1) c4) w4 (k + 1) := by
  have hlt : ∀ g, u.ownBlock = some g → g < wr.heap.size := fun g h => (ownsRow_ge hr h).2
  have hs2 := hb2.size
  refine ⟨⟨es ++ [x], m ++ [m2], eachS_take _ ds k hk _ _ hm hm2, by simp [hes], by rw [List.length_append]; exact ho4, ?_⟩, ?_, ?_⟩
  · have kp2 : Keep 205 wr w2 := Keep.of_below hb2
    have kp4 : Keep 205 w2 w4 := Keep.of_upd hu4 fun k c hk h => by
      rcases hr.2 with ⟨hv, _⟩ | ⟨g, cap, cu, hv, hg, hh, r⟩
      · rw [hv] at hk; cases hk
      · rw [hv] at hk; cases hk
        rw [hb2.block g (lt_of_some hh), hh] at h; cases h
    refine EVs.append (he.imp (kp2.trans kp4) fun g o hg ho => ?_) ?_
    · have hgl := lt_of_some ho
      refine ⟨hu4.at (by rw [hb2.block g hgl]; exact ho) hg.2, hg.1, fun h => ?_⟩
      have h : g4 = g := Option.some.inj h
      subst h
      rcases hg4 with h4 | h4
      · exact hg.2 h4
      · omega
    · have hx' : EV w4 (fun g => w.heap.size ≤ g ∧ ¬ (Value.slice (some ⟨g4, 0, none⟩) (es.length + 1) c4).ownBlock = some g) m2 x := hx.imp kp4 fun g o hg ho => by
        have hgl := lt_of_some ho
        refine ⟨hu4.at ho (fun h => by have := hlt g h; omega), Nat.le_trans hb.size hg, fun h => ?_⟩
        have h : g4 = g := Option.some.inj h
        subst h
        rcases hg4 with h4 | h4
        · have := hlt g4 h4; omega
        · omega
      exact EVs.cons hx' EVs.nil
  · have hw2 : Below w.heap.size w w2 := hb.trans (hb2.mono hb.size)
    exact hw2.trans (hu4.below hw2.size (by intro j hj; exact (ownsRow_ge hr hj).1))
  · intro j hj hjk
    rcases Nat.lt_or_eq_of_le (Nat.le_of_lt_succ hjk) with h | h
    · exact hok j hj h
    · subst h; exact hokk

set_option maxRecDepth 100000 in
set_option maxHeartbeats 2000000 in
theorem each_go (n : Nat) (hof : OfC n) (vs : List Value) (ds : List D) (v : Value) (w : World) (hrow : RowQ w v vs) (hds : IVs w n vs ds) (hlen : ds.length ≤ 1000) (r : Bool) (HR : Hid (r = ds.all (exprF n))) :
    Calls Tryz.prog 144 #[v] w (EachPost w n ds r) := by
  obtain ⟨a, cap, rfl, hc1, hc2, hat⟩ := rowQ_at hrow hds
  have HAT := hide hat
  have HOF := hide hof
  clear hat hrow hds hof
  unfold maxLen at hc2
  obtain ⟨i0, hi, hz0, hz1, hz2⟩ := info_parts infoE
  have HI := hide (And.intro hi (And.intro hz0 (And.intro hz1 hz2)))
  clear hi hz0 hz1 hz2
  go_enter Tryz.func144, Tryz.ntmps144
  go_wp2
  go_loopw [4, 11] (fun u i wr => ∃ k : Nat, k ≤ ds.length ∧ i = .int .i64 k ∧ EachRel w n ds u wr k) (fun _ i _ => ds.length - (intOf i).toNat)
  case atStart => exact ⟨0, Nat.zero_le _, rfl, ⟨[], [], rfl, rfl, World.ownsRow_nil _ _ _ _, .nil⟩, Below.refl _ _, fun j _ h => absurd h (by omega)⟩
  case round =>
    obtain ⟨k, hk, rfl, ⟨es, m, hm, hes, hr, he⟩, hb, hok⟩ := hrel
    have hbs := hb.size
    have hel : es.length ≤ 1000 := by omega
    have HES := hide hes
    clear hes
    have H2 := hide hr
    have HE := hide he
    have HB := hide hb
    have HOK := hide hok
    have HM := hide hm
    by_cases hlt : k < ds.length
    · obtain ⟨g, off, rfl, hg, t, x, hiv, c0⟩ := HAT.out k hlt
      have d0 : wr.cell? ⟨g, off + k, none⟩ = some (.iface t x) := by rw [hb.cell (p := ⟨g, off + k, none⟩) hg]; exact c0
      have HIV := hide (IV.keep (Keep.of_below hb) _ _ _ hiv)
      clear hiv hb c0 hr he hok hm
      cases hex : exprF n ds[k] with
      | false =>
        have HFN := hide (allE_no ds k hlt hex)
        have HEX := hide hex.symm
        clear hex
        go_wp2_with fail
        refine (HOF.out ds[k] (.iface t x) _ false HIV.out HEX).mono ?_
        rintro e w2 ⟨⟨x2, rfl, _⟩, hb2⟩
        have HB2 := hide hb2
        clear hb2
        go_wp2
        go_ret2
        exact ⟨⟨_, ret_pair_bool (by rw [HR.out, HFN.out]), fun _ => rfl, fun h => by rw [HR.out, HFN.out] at h; cases h⟩, HB.out.trans (HB2.out.mono HB.out.size)⟩
      | true =>
        have HEX := hide hex.symm
        clear hex
        go_wp2_with fail
        refine (HOF.out ds[k] (.iface t x) _ true HIV.out HEX).mono ?_
        rintro e w2 ⟨⟨x2, rfl, hx2⟩, hb2⟩
        obtain ⟨m2, hm2, hev⟩ := hx2 rfl
        obtain ⟨t1, x1, rfl⟩ := hev.form
        have hb2s := hb2.size
        have HB2 := hide hb2
        have HEV := hide hev
        have HM2 := hide hm2
        have HRW := hide (ownsRow_of_upd H2.out (Upd.of_below (fun _ => False) hb2) (fun _ _ h => h))
        clear hb2 hev hx2 hm2
        go_wp2_with (at_builtin; refine wpList_append_lies _ rfl (.tmp 22) (.tmp 24) 79 rfl w.heap.size 83 i0 .nilIface 1 16 Tryz.underlying79 HI.out.1 HI.out.2.1 HI.out.2.2.1 HI.out.2.2.2 rfl (by decide) _ es.length es rfl (HRW.out.alloc _) ⟨w2.heap.size, 0, none⟩ 1 1 [.iface t1 x1] rfl rfl (cell_one_new _ _ _) (by intro u hu; simp at hu; subst hu; rfl) (by decide) (by unfold maxLen; omega) (by omega) (by simp; omega) (w2.heap.size + 1) (by simp) ?_)
        intro g4 c4 w4 ho4 hgr4 hat4 hlt4
        have HU4 := hide (items_upd hgr4)
        have HO4 := hide ho4
        have HG4 := hide (show u4.ownBlock = some g4 ∨ w2.heap.size ≤ g4 from hat4.imp id (fun h => by omega))
        clear ho4 hgr4 hat4
        go_wp2
        go_roundw
        case rel => exact ⟨k + 1, by omega, rfl, each_round hlt HM.out HES.out H2.out HE.out HB.out HOK.out HB2.out HM2.out HEV.out HEX.out.symm HU4.out HO4.out HG4.out⟩
        case measure => simp [intOf]; omega
    · have hke : k = ds.length := by omega
      subst hke
      clear hb hr he hok hm
      have HAL := hide (allE_yes (f := exprF n) ds (fun j hj => HOK.out j hj hj))
      go_wp2
      go_ret2
      exact ⟨⟨_, ret_pair_bool (by rw [HR.out, HAL.out]), (fun h => by rw [HR.out, HAL.out] at h; cases h), fun _ => ⟨es, m, by have := HM.out; rwa [List.take_length] at this, HES.out, H2.out, HE.out⟩⟩, HB.out⟩
end Go.Proofs.YtlobegpjenabaaaGreatDoor
