/- expr: split. -/
import Derived.Test.YtlobegpjenabaaaGreatDoorImpVars
namespace Go.Proofs.YtlobegpjenabaaaGreatDoor
open Go.RowKit
set_option linter.unusedSimpArgs false
set_option linter.unusedVariables false

def bFst (b : D) : D := (itemsD b).getD 0 (num 0)
def bSnd (b : D) : D := (itemsD b).getD 1 (lst [])
def bOk (b : D) : Bool := isList b && decide ((itemsD b).length = 2)

theorem RowI.notPair {B : Nat} {w : World} {v : Value} {vs : List Value} (h : RowI B w v vs) : ∀ (k : Nat) c, v.ownBlock = some k → ¬ w.heap[k]? = some (Obj.cells c 205 (0, 0)) := by
  intro k c hk
  rcases h.2 with ⟨hv, _⟩ | ⟨g', cap, cu, hv, hb, hh, r⟩
  · rw [hv] at hk; cases hk
  · rw [hv] at hk; cases hk; rw [hh]; simp
theorem RowI.upd_keep {B : Nat} {w w1 : World} {v : Value} {vs : List Value} (h : RowI B w v vs) (hu : Upd (fun k => v.ownBlock = some k) w w1) : Keep 205 w w1 := Keep.of_upd hu (fun k c hk => h.notPair k c hk)
theorem RowI.below {B : Nat} {w w' : World} {v : Value} {vs : List Value} (h : RowI B w v vs) (hb : Below w.heap.size w w') : RowI B w' v vs := ownsRow_of_upd h (Upd.of_below (fun _ => False) hb) (fun _ _ h => h)

theorem ret_tri_bool {u v : Value} {a b : Bool} (h : a = b) : Ending.returned (.tuple #[u, v, .bool a]) = .returned (.tuple #[u, v, .bool b]) := by rw [h]
/-- At a round's head of split. -/
def SplitRel (w : World) (n : Nat) (ds : List D) (u2 u3 : Value) (wr : World) (k : Nat) : Prop :=
  (∃ xs ys, RowI w.heap.size wr u2 xs ∧ IVs wr n xs ((ds.take k).map bFst) ∧ RowI w.heap.size wr u3 ys ∧ IVs wr n ys ((ds.take k).map bSnd)) ∧ (∀ g, u2.ownBlock = some g → ¬ u3.ownBlock = some g) ∧ Below w.heap.size w wr ∧ (∀ j (hj : j < ds.length), j < k → bOk ds[j] = true)

theorem all_no (ds : List D) (k : Nat) (hk : k < ds.length) (h : bOk ds[k] = false) : ds.all bOk = false := by
  rw [Bool.eq_false_iff]
  intro ha
  rw [List.all_eq_true] at ha
  have := ha ds[k] (List.getElem_mem hk)
  rw [h] at this; cases this
theorem all_yes (ds : List D) (h : ∀ j (hj : j < ds.length), bOk ds[j] = true) : ds.all bOk = true := by
  rw [List.all_eq_true]
  intro d hd
  obtain ⟨j, hj, rfl⟩ := List.getElem_of_mem hd
  exact h j hj

theorem split_round {w wr w2 w4 w5 : World} {n k : Nat} {ds : List D} {u2 u3 : Value} {xs ys : List Value} {g4 g5 c4 c5 : Nat} {x1 x2 : Value} (hk : k < ds.length)
    (hr2 : RowI w.heap.size wr u2 xs) (hx : IVs wr n xs ((ds.take k).map bFst)) (hr3 : RowI w.heap.size wr u3 ys) (hy : IVs wr n ys ((ds.take k).map bSnd)) (hne : ∀ g, u2.ownBlock = some g → ¬ u3.ownBlock = some g) (hb : Below w.heap.size w wr) (hok : ∀ j (hj : j < ds.length), j < k → bOk ds[j] = true)
    (hb2 : Below wr.heap.size wr w2) (hd1 : IV w2 n x1 (bFst ds[k])) (hd2 : IV w2 n x2 (bSnd ds[k])) (ho : bOk ds[k] = true)
    (hu4 : Upd (fun k => u2.ownBlock = some k) w2 w4) (ho4 : w4.ownsRow w.heap.size 81 1 (.slice (some ⟨g4, 0, none⟩) (xs.length + 1) c4) (xs.length + 1) (xs ++ [x1])) (hg4 : u2.ownBlock = some g4 ∨ wr.heap.size ≤ g4) (hl4 : g4 < w4.heap.size)
    (hu5 : Upd (fun k => u3.ownBlock = some k) w4 w5) (ho5 : w5.ownsRow w.heap.size 81 1 (.slice (some ⟨g5, 0, none⟩) (ys.length + 1) c5) (ys.length + 1) (ys ++ [x2])) (hg5 : u3.ownBlock = some g5 ∨ w4.heap.size ≤ g5) :
    SplitRel w n ds (.slice (some ⟨g4, 0, none⟩) (xs.length + 1) c4) (.slice (some ⟨g5, 0, none⟩) (ys.length + 1) c5) w5 (k + 1) := by
  have k2 : Keep 205 wr w2 := Keep.of_below hb2
  have k4 : Keep 205 w2 w4 := (hr2.below hb2).upd_keep hu4
  have hr34 : RowI w.heap.size w4 u3 ys := ownsRow_of_upd (hr3.below hb2) hu4 (fun g h3 h2 => hne g h2 h3)
  have k5 : Keep 205 w4 w5 := hr34.upd_keep hu5
  have k45 := k4.trans k5
  have k25 := k2.trans k45
  have hlt3 : ∀ g, u3.ownBlock = some g → g < wr.heap.size := fun g h => (ownsRow_ge hr3 h).2
  have h45 : ¬ u3.ownBlock = some g4 := by
    intro h
    rcases hg4 with h4 | h4
    · exact hne g4 h4 h
    · have := hlt3 g4 h; omega
  have hrow4 : RowI w.heap.size w5 (.slice (some ⟨g4, 0, none⟩) (xs.length + 1) c4) (xs ++ [x1]) := by
    unfold RowI; rw [List.length_append]
    exact ownsRow_of_upd ho4 hu5 (fun g hg h => by cases hg; exact h45 h)
  refine ⟨⟨xs ++ [x1], ys ++ [x2], hrow4, ?_, by unfold RowI; rw [List.length_append]; exact ho5, ?_⟩, ?_, ?_, ?_⟩
  · rw [List.take_succ_eq_append_getElem hk, List.map_append]
    exact IVs.append (IVs.keep k25 n _ _ hx) ⟨IV.keep k45 _ _ _ hd1, trivial⟩
  · rw [List.take_succ_eq_append_getElem hk, List.map_append]
    exact IVs.append (IVs.keep k25 n _ _ hy) ⟨IV.keep k45 _ _ _ hd2, trivial⟩
  · intro g h1 h2
    cases h1
    cases h2
    rcases hg5 with h5 | h5
    · exact h45 h5
    · omega
  · have hw2 : Below w.heap.size w w2 := hb.trans (hb2.mono hb.size)
    have hw4 : Below w.heap.size w w4 := hw2.trans (hu4.below hw2.size (by intro j hj; exact (ownsRow_ge hr2 hj).1))
    exact hw4.trans (hu5.below hw4.size (by intro j hj; exact (ownsRow_ge hr3 hj).1))
  · intro j hj hjk
    rcases Nat.lt_or_eq_of_le (Nat.le_of_lt_succ hjk) with h | h
    · exact hok j hj h
    · subst h; exact ho

set_option maxRecDepth 100000 in
set_option maxHeartbeats 2000000 in
theorem split_go (n : Nat) (vs : List Value) (ds : List D) (v : Value) (w : World) (hrow : RowQ w v vs) (hds : IVs w (n + 1) vs ds) (hlen : ds.length ≤ 1000) (r : Bool) (HR : Hid (r = ds.all bOk)) :
    Calls Tryz.prog 149 #[v] w fun e w' => (∃ u2 u3 xs ys, e = .returned (.tuple #[u2, u3, .bool r]) ∧ RowI w.heap.size w' u2 xs ∧ RowI w.heap.size w' u3 ys ∧ (r = true → IVs w' n xs (ds.map bFst) ∧ IVs w' n ys (ds.map bSnd)) ∧ (r = false → xs = [] ∧ ys = [])) ∧ Below w.heap.size w w' := by
  obtain ⟨a, cap, rfl, hc1, hc2, hat⟩ := rowQ_at hrow hds
  have HAT := hide hat
  clear hat hrow hds
  unfold maxLen at hc2
  obtain ⟨i0, hi, hz0, hz1, hz2⟩ := info_parts infoVal
  have HI := hide (And.intro hi (And.intro hz0 (And.intro hz1 hz2)))
  clear hi hz0 hz1 hz2
  go_enter Tryz.func149, Tryz.ntmps149
  go_wp2
  go_loopw [2, 3, 11] (fun u2 u3 i wr => ∃ k : Nat, k ≤ ds.length ∧ i = .int .i64 k ∧ SplitRel w n ds u2 u3 wr k) (fun _ _ i _ => ds.length - (intOf i).toNat)
  case atStart => exact ⟨0, Nat.zero_le _, rfl, ⟨[], [], RowI.nil _ _, trivial, RowI.nil _ _, trivial⟩, fun g h => (by cases h), Below.refl _ _, fun j _ h => absurd h (by omega)⟩
  case round =>
    obtain ⟨k, hk, rfl, ⟨xs, ys, hr2, hx, hr3, hy⟩, hne, hb, hok⟩ := hrel
    have hbs := hb.size
    have hxl : xs.length ≤ 1000 := by have := hx.length; simp at this; omega
    have hyl : ys.length ≤ 1000 := by have := hy.length; simp at this; omega
    have H2 := hide hr2
    have HX := hide hx
    have H3 := hide hr3
    have HY := hide hy
    have HNE := hide hne
    have HB := hide hb
    have HOK := hide hok
    by_cases hlt : k < ds.length
    · obtain ⟨g, off, rfl, hg, t, x, hiv, c0⟩ := HAT.out k hlt
      have d0 : wr.cell? ⟨g, off + k, none⟩ = some (.iface t x) := by rw [hb.cell (p := ⟨g, off + k, none⟩) hg]; exact c0
      have HIV := hide (IV.keep (Keep.of_below hb) _ _ _ hiv)
      clear hiv hb c0 hr2 hx hr3 hy hne hok
      go_wp2_with fail
      refine (iitems_any n ds[k] (.iface t x) _ HIV.out).mono ?_
      rintro e w2 ⟨v2, vs2, rfl, hrow2, hvs2, hb2⟩
      obtain ⟨a2, cap2, rfl, hd1, hd2, hat2⟩ := ownsRow_slice hrow2
      have hl2 := hvs2.length
      have hb2s := hb2.size
      have HR2 := hide hrow2
      have HV2 := hide hvs2
      have HB2 := hide hb2
      have HAT2 := hide hat2
      clear hrow2 hvs2 hb2 hat2
      unfold maxLen at hd2
      cases hil : isList ds[k] with
      | false =>
        have HFN := hide (all_no ds k hlt (by unfold bOk; rw [hil]; rfl))
        clear hil
        go_wp2
        go_ret3
        exact ⟨⟨_, _, [], [], ret_tri_bool (by rw [HR.out, HFN.out]), RowI.nil _ _, RowI.nil _ _, (fun h => by rw [HR.out, HFN.out] at h; cases h), fun _ => ⟨rfl, rfl⟩⟩, HB.out.trans (HB2.out.mono HB.out.size)⟩
      | true =>
        by_cases h2 : vs2.length = 2
        · have hi2 : (itemsD ds[k]).length = 2 := by rw [← hl2]; exact h2
          obtain ⟨g2, rfl, _, hg2, hc⟩ := HAT2.out (by omega)
          obtain ⟨y1, hy1, hv1⟩ := HV2.out.at 0 (by omega)
          obtain ⟨y2, hy2, hv2⟩ := HV2.out.at 1 (by omega)
          obtain ⟨t1, x1, rfl⟩ := IV.form _ _ _ hv1
          obtain ⟨t2, x2, rfl⟩ := IV.form _ _ _ hv2
          have e1 := hc 0 _ hy1
          have HBO := hide (show bOk ds[k] = true from by unfold bOk; rw [hil, hi2]; rfl)
          have HV1 := hide (show IV w2 n (.iface t1 x1) (bFst ds[k]) from by unfold bFst; rw [List.getD_eq_getElem?_getD, List.getElem?_eq_getElem (by omega)]; exact hv1)
          have HV22 := hide (show IV w2 n (.iface t2 x2) (bSnd ds[k]) from by unfold bSnd; rw [List.getD_eq_getElem?_getD, List.getElem?_eq_getElem (by omega)]; exact hv2)
          have HY2 := hide hy2
          have HR22 := HR2
          clear hi2 hl2 hy1 hy2 hv1 hv2 hil hc
          rw [h2] at hd1
          rw [h2]
          go_wp2_with (at_builtin; refine wpList_append_lies _ rfl (.tmp 27) (.tmp 31) 76 rfl w.heap.size 81 i0 .nilIface 1 16 Tryz.underlying76 HI.out.1 HI.out.2.1 HI.out.2.2.1 HI.out.2.2.2 rfl (by decide) _ xs.length xs rfl ((H2.out.below HB2.out).alloc _) ⟨w2.heap.size, 0, none⟩ 1 1 [.iface t1 x1] rfl rfl (cell_one_new _ _ _) (by intro u hu; simp at hu; subst hu; rfl) (by decide) (by unfold maxLen; omega) (by omega) (by simp; omega) (w2.heap.size + 1) (by simp) ?_)
          intro g4 c4 w4 ho4 hgr4 hat4 hlt4
          have hu4 := items_upd hgr4
          have hs4 := hu4.size
          have hrow24 := ownsRow_of_upd HR2.out hu4 (fun g hg h => by have h1 := (ownsRow_ge H2.out h).2; have h3 := (ownsRow_ge HR2.out hg).1; omega)
          have hr34 := ownsRow_of_upd (H3.out.below HB2.out) hu4 (fun g h3 h2 => HNE.out g h2 h3)
          have e2 : w4.cell? ⟨g2, 1, none⟩ = some (.iface t2 x2) := by
            obtain ⟨a', cap', hv', _, _, hat'⟩ := ownsRow_slice hrow24
            obtain ⟨g', ha', _, _, hc'⟩ := hat' (by omega)
            cases hv'
            cases ha'
            exact hc' 1 _ HY2.out
          have HU4 := hide hu4
          have HO4 := hide ho4
          have HR34 := hide hr34
          have HG4 := hide (show u2.ownBlock = some g4 ∨ wr.heap.size ≤ g4 from hat4.imp id (fun h => by omega))
          clear hu4 ho4 hgr4 hat4 hrow24 hr34 e1
          go_wp2_with (at_builtin; refine wpList_append_lies _ rfl (.tmp 33) (.tmp 37) 76 rfl w.heap.size 81 i0 .nilIface 1 16 Tryz.underlying76 HI.out.1 HI.out.2.1 HI.out.2.2.1 HI.out.2.2.2 rfl (by decide) _ ys.length ys rfl (HR34.out.alloc _) ⟨w4.heap.size, 0, none⟩ 1 1 [.iface t2 x2] rfl rfl (cell_one_new _ _ _) (by intro u hu; simp at hu; subst hu; rfl) (by decide) (by unfold maxLen; omega) (by omega) (by simp; omega) (w4.heap.size + 1) (by simp) ?_)
          intro g5 c5 w5 ho5 hgr5 hat5 hlt5
          have HU5 := hide (items_upd hgr5)
          have HO5 := hide ho5
          have HG5 := hide (show u3.ownBlock = some g5 ∨ w4.heap.size ≤ g5 from hat5.imp id (fun h => by omega))
          clear ho5 hgr5 hat5
          go_wp2
          go_roundw
          case rel => exact ⟨k + 1, by omega, rfl, split_round hlt H2.out HX.out H3.out HY.out HNE.out HB.out HOK.out HB2.out HV1.out HV22.out HBO.out HU4.out HO4.out HG4.out hlt4 HU5.out HO5.out HG5.out⟩
          case measure => simp [intOf]; omega
        · have HFN := hide (all_no ds k hlt (by unfold bOk; rw [← hl2]; simp [h2]))
          have b2 : ((vs2.length : Int) != 2) = true := by simp; omega
          clear hil hl2
          go_wp2
          go_ret3
          exact ⟨⟨_, _, [], [], ret_tri_bool (by rw [HR.out, HFN.out]), RowI.nil _ _, RowI.nil _ _, (fun h => by rw [HR.out, HFN.out] at h; cases h), fun _ => ⟨rfl, rfl⟩⟩, HB.out.trans (HB2.out.mono HB.out.size)⟩
    · have hke : k = ds.length := by omega
      subst hke
      clear hb hr2 hx hr3 hy hne hok
      have HAL := hide (all_yes ds (fun j hj => HOK.out j hj hj))
      go_wp2
      go_ret3
      exact ⟨⟨_, _, xs, ys, ret_tri_bool (by rw [HR.out, HAL.out]), H2.out, H3.out, fun _ => ⟨by have := HX.out; rwa [List.take_length] at this, by have := HY.out; rwa [List.take_length] at this⟩, fun h => by rw [HR.out, HAL.out] at h; cases h⟩, HB.out⟩
end Go.Proofs.YtlobegpjenabaaaGreatDoor
