/- expr: sequence, application, quote, reference, procedure. -/
import Derived.Test.YtlobegpjenabaaaGreatDoorImpEach
namespace Go.Proofs.YtlobegpjenabaaaGreatDoor
open Go.RowKit
set_option linter.unusedSimpArgs false
set_option linter.unusedVariables false

theorem rowE_of {w w' : World} {u : Value} {es : List Value} (h : w'.ownsRow w.heap.size 83 1 u es.length es) : RowE w' (fun g => w.heap.size ≤ g) u es := ⟨ownsRow_base h (Nat.zero_le _), fun g hg => (ownsRow_ge h hg).1⟩
theorem evs_of {w w' : World} {u : Value} {es : List Value} {k : Nat} (h : EVs w' (fun g => w.heap.size ≤ g ∧ ¬ u.ownBlock = some g) k es) : EVs w' (fun g => w.heap.size ≤ g) k es := h.imp fun g o hg ho => ⟨ho, hg.1⟩

set_option maxHeartbeats 2000000 in
theorem application_go (n : Nat) (hof : OfC n) (vs : List Value) (ds : List D) (v : Value) (w : World) (hrow : RowQ w v vs) (hds : IVs w n vs ds) (hlen : ds.length ≤ 1000) (hpos : 0 < ds.length) (r : Bool) (HR : Hid (r = ds.all (exprF n))) :
    Calls Tryz.prog 96 #[v] w (OfPost w (wtL ds + 1) r) := by
  have HE := hide (each_go n hof vs ds v w hrow hds hlen r HR)
  clear hof hrow hds HR
  go_enter Tryz.func96, Tryz.ntmps96
  go_wp2_with fail
  refine HE.out.mono ?_
  rintro e w2 ⟨⟨u, rfl, h0, h1⟩, hb⟩
  have HB := hide hb
  clear hb HE
  cases r with
  | false =>
    clear h0 h1
    go_wp2
    go_ret2
    exact ⟨⟨_, rfl, fun h => by cases h⟩, HB.out⟩
  | true =>
    obtain ⟨es, k, hk, hl, hr, he⟩ := h1 rfl
    have HR := hide (EV.apply (rowE_of hr) (by omega) (evs_of he))
    obtain ⟨a, cap, rfl, _, _, _⟩ := ownsRow_slice hr
    clear h0 h1 hr he hl hpos hlen
    go_wp2
    go_ret2
    exact ⟨⟨_, rfl, fun _ => ⟨k + 1, by omega, HR.out⟩⟩, HB.out⟩

theorem evs_one {w : World} {P : Nat → Prop} {k : Nat} {es : List Value} (h : EVs w P k es) (hl : es.length = 1) : ∃ x, es = [x] ∧ EV w P k x := by
  cases h with
  | nil => cases hl
  | cons a b =>
    rename_i n m e r
    have : r = [] := List.length_eq_zero_iff.1 (by simpa using hl)
    subst this
    cases b
    exact ⟨e, rfl, a⟩

set_option maxHeartbeats 2000000 in
theorem sequence_go (n : Nat) (hof : OfC n) (vs : List Value) (ds : List D) (v : Value) (w : World) (hrow : RowQ w v vs) (hds : IVs w n vs ds) (hlen : ds.length ≤ 1000) (r : Bool) (HR : Hid (r = (decide (0 < ds.length) && ds.all (exprF n)))) :
    Calls Tryz.prog 94 #[v] w (OfPost w (wtL ds + 1) r) := by
  cases hall : ds.all (exprF n) with
  | false =>
    have HE := hide (each_go n hof vs ds v w hrow hds hlen false hall.symm)
    have hr : r = false := by rw [HR.out, hall, Bool.and_false]
    subst hr
    clear hof hrow hds HR hall
    go_enter Tryz.func94, Tryz.ntmps94
    go_wp2_with fail
    refine HE.out.mono ?_
    rintro e w2 ⟨⟨u, rfl, h0, h1⟩, hb⟩
    have HB := hide hb
    clear hb HE h0 h1
    go_wp2
    go_ret2
    exact ⟨⟨_, rfl, fun h => by cases h⟩, HB.out⟩
  | true =>
    have HE := hide (each_go n hof vs ds v w hrow hds hlen true hall.symm)
    have hrd : r = decide (0 < ds.length) := by rw [HR.out, hall, Bool.and_true]
    clear hof hrow hds HR hall
    go_enter Tryz.func94, Tryz.ntmps94
    go_wp2_with fail
    refine HE.out.mono ?_
    rintro e w2 ⟨⟨u, rfl, h0, h1⟩, hb⟩
    obtain ⟨es, k, hk, hl, hrw, he⟩ := h1 rfl
    have HB := hide hb
    obtain ⟨a, cap, rfl, hc1, hc2, hat⟩ := ownsRow_slice hrw
    unfold maxLen at hc2
    clear hb HE h0 h1
    by_cases hz : es.length = 0
    · have hr : r = false := by rw [hrd]; exact decide_eq_false (by omega)
      subst hr
      clear hrd
      have b1 : ((es.length : Int) == 0) = true := by rw [beq_iff_eq]; omega
      clear hrw he hat hl hz hlen
      go_wp2
      go_ret2
      exact ⟨⟨_, rfl, fun h => by cases h⟩, HB.out⟩
    · have hr : r = true := by rw [hrd]; exact decide_eq_true (by omega)
      subst hr
      clear hrd
      have b1 : ((es.length : Int) == 0) = false := by rw [beq_eq_false_iff_ne]; omega
      by_cases ho : es.length = 1
      · have b2 : ((es.length : Int) == 1) = true := by rw [beq_iff_eq]; omega
        rw [ho] at hc1
        rw [ho]
        obtain ⟨x, rfl, hx⟩ := evs_one (evs_of he) ho
        obtain ⟨t, y, rfl⟩ := hx.form
        obtain ⟨g, rfl, _, hg, hc⟩ := hat (by simp)
        have c0 := hc 0 _ rfl
        have HX := hide hx
        clear hrw he hat hx hc b1 b2 hl hz ho hlen
        go_wp2
        go_ret2
        exact ⟨⟨_, rfl, fun _ => ⟨k, by omega, HX.out⟩⟩, HB.out⟩
      · have b2 : ((es.length : Int) == 1) = false := by rw [beq_eq_false_iff_ne]; omega
        have HS := hide (EV.seq (rowE_of hrw) (by omega) (evs_of he))
        clear hrw he hat hl hz ho hlen
        go_wp2
        go_ret2
        exact ⟨⟨_, rfl, fun _ => ⟨k + 1, by omega, HS.out⟩⟩, HB.out⟩

set_option maxHeartbeats 2000000 in
theorem quote_go (n : Nat) (vs : List Value) (ds : List D) (v : Value) (w : World) (hrow : RowQ w v vs) (hds : IVs w n vs ds) (hlen : ds.length ≤ 1000) (r : Bool) (HR : Hid (r = decide (ds.length = 1))) :
    Calls Tryz.prog 89 #[v] w (OfPost w 1 r) := by
  obtain ⟨a, cap, rfl, hc1, hc2, hat⟩ := rowQ_at hrow hds
  have HAT := hide hat
  unfold maxLen at hc2
  clear hat hrow hds
  by_cases h1 : ds.length = 1
  · have hr : r = true := by rw [HR.out]; exact decide_eq_true h1
    subst hr
    obtain ⟨g, off, rfl, hg, t, x, hiv, c0⟩ := HAT.out 0 (by omega)
    rw [Nat.add_zero] at c0
    rw [h1] at hc1
    rw [h1]
    clear HAT HR hiv h1 hlen
    go_enter Tryz.func89, Tryz.ntmps89
    go_wp2
    go_ret2
    exact ⟨⟨_, rfl, fun _ => ⟨1, Nat.le_refl _, .const _ _⟩⟩, Below.refl _ _⟩
  · have hr : r = false := by rw [HR.out]; exact decide_eq_false h1
    subst hr
    have b1 : ((ds.length : Int) != 1) = true := by simp; omega
    clear HAT HR h1
    go_enter Tryz.func89, Tryz.ntmps89
    go_wp2
    go_ret2
    exact ⟨⟨_, rfl, fun h => by cases h⟩, Below.refl _ _⟩

set_option maxHeartbeats 2000000 in
theorem reference_go (s : ByteArray) (w : World) (r : Bool) (HR : Hid (r = !(kwB s.data.toList))) :
    Calls Tryz.prog 55 #[.string s] w (OfPost w (s.size + 1) r) := by
  go_enter Tryz.func55, Tryz.ntmps55
  go_wp2_with fail
  refine (ivariable_sym s _).mono ?_
  rintro e w2 ⟨⟨t, rfl, ht⟩, rfl⟩
  have HT := hide ht
  clear ht
  have HK := hide (show r = true → kwB s.data.toList = false from fun h => by have := HR.out; rw [h] at this; simpa using this.symm)
  rw [← HR.out]
  clear HR
  cases r with
  | false =>
    go_wp2
    go_ret2
    exact ⟨⟨_, rfl, fun h => by cases h⟩, Below.refl _ _⟩
  | true =>
    go_wp2
    go_ret2
    exact ⟨⟨_, rfl, fun _ => ⟨_, Nat.le_of_eq (by rw [HT.out (HK.out (by first | exact trivial | rfl))]), .var _⟩⟩, Below.refl _ _⟩

theorem rowN_of {w w' : World} {u : Value} {zs : List ByteArray} (h : RowT w.heap.size w' u zs) : RowN w' (fun g => w.heap.size ≤ g) u zs := ⟨ownsRow_base h (Nat.zero_le _), fun g hg => (ownsRow_ge h hg).1⟩

set_option maxHeartbeats 2000000 in
theorem procedure_go (n m : Nat) (hof : OfC n) (ns vs : List Value) (nd ds : List D) (u v : Value) (w : World) (hrn : RowQ w u ns) (hnd : IVs w m ns nd) (hln : nd.length ≤ 1000) (hrow : RowQ w v vs) (hds : IVs w n vs ds) (hlen : ds.length ≤ 1000) (r : Bool) (HR : Hid (r = (varsL [] nd && (decide (0 < ds.length) && ds.all (exprF n))))) :
    Calls Tryz.prog 148 #[u, v] w (OfPost w (wtL ds + wtL nd + 2) r) := by
  have HN := hide (ivariables_go m ns nd u w hrn hnd hln (varsL [] nd) rfl)
  have HS := hide (fun (w2 : World) (hb : Below w.heap.size w w2) => sequence_go n hof vs ds v w2 (hrow.below hb) (IVs.keep (Keep.of_below hb) _ _ _ hds) hlen (decide (0 < ds.length) && ds.all (exprF n)) rfl)
  clear hrn hnd hrow hds hof
  generalize (decide (0 < ds.length) && ds.all (exprF n)) = r2 at *
  generalize varsL [] nd = r1 at *
  obtain ⟨a0, hv0⟩ : ∃ x, x = v := ⟨_, rfl⟩
  go_enter Tryz.func148, Tryz.ntmps148
  go_wp2_with fail
  refine HN.out.mono ?_
  rintro e w2 ⟨⟨u2, rfl, hu2⟩, hb⟩
  have HU2 := hide hu2
  have HB := hide hb
  clear hu2 hb HN
  go_wp2_with fail
  refine (HS.out _ HB.out).mono ?_
  rintro e w3 ⟨⟨u3, rfl, hu3⟩, hb⟩
  have HU3 := hide hu3
  have HB3 := hide hb
  clear hu3 hb HS
  have HBB := hide (HB.out.trans (HB3.out.mono HB.out.size))
  cases r1 with
  | false =>
    have hr : r = false := by rw [HR.out]; rfl
    subst hr
    clear HR
    go_wp2
    go_ret2
    exact ⟨⟨_, rfl, fun h => by cases h⟩, HBB.out⟩
  | true =>
    cases r2 with
    | false =>
      have hr : r = false := by rw [HR.out]; rfl
      subst hr
      clear HR
      go_wp2
      go_ret2
      exact ⟨⟨_, rfl, fun h => by cases h⟩, HBB.out⟩
    | true =>
      have hr : r = true := by rw [HR.out]; rfl
      subst hr
      clear HR
      obtain ⟨zs, hz, hzl⟩ := HU2.out rfl
      obtain ⟨k, hk, hev⟩ := HU3.out rfl
      obtain ⟨t, x, rfl⟩ := hev.form
      have hs2 := HB.out.size
      have HL := hide (fun nm => EV.lambda nm (RowN.imp (w' := w3) (P' := fun g => w.heap.size ≤ g) (fun g o hg ho => ⟨by rw [HB3.out.block g (lt_of_some ho)]; exact ho, hg⟩) (rowN_of hz)) (hev.imp (P' := fun g => w.heap.size ≤ g) fun g o hg ho => ⟨ho, Nat.le_trans hs2 hg⟩))
      obtain ⟨a, cap, rfl, _, _, _⟩ := ownsRow_slice hz
      clear HU2 HU3 hev hz
      have HZ := hide (szs_wt _ _ hzl)
      clear hzl
      go_wp2
      go_ret2
      exact ⟨⟨_, rfl, fun _ => ⟨k + szs zs + 1, by have := HZ.out; omega, HL.out _⟩⟩, HBB.out⟩
end Go.Proofs.YtlobegpjenabaaaGreatDoor
