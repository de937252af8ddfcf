/- expr: nameAndValue, set. -/
import Derived.Test.YtlobegpjenabaaaGreatDoorImpForms
namespace Go.Proofs.YtlobegpjenabaaaGreatDoor
open Go.RowKit
set_option linter.unusedSimpArgs false
set_option linter.unusedVariables false

def NvPost (w : World) (m : Nat) (r : Bool) (e : Ending) (w' : World) : Prop :=
  (∃ s u, e = .returned (.tuple #[.string s, u, .bool r]) ∧ (r = true → ∃ k, k + s.size + 1 ≤ m ∧ EV w' (fun g => w.heap.size ≤ g) k u)) ∧ Below w.heap.size w w'

theorem two_of {ds : List D} (h : ds.length = 2) : ∃ a b, ds = [a, b] := by
  match ds, h with
  | [a, b], _ => exact ⟨a, b, rfl⟩

set_option maxHeartbeats 2000000 in
theorem nv_two (n : Nat) (hof : OfC n) (vs : List Value) (d1 d2 : D) (v : Value) (w : World) (hrow : RowQ w v vs) (hds : IVs w n vs [d1, d2]) (r : Bool) (HR : Hid (r = (varD d1 && exprF n d2))) :
    Calls Tryz.prog 146 #[v] w (NvPost w (wtD d1 + wtD d2) r) := by
  obtain ⟨a, cap, rfl, hc1, hc2, hat⟩ := rowQ_at hrow hds
  obtain ⟨g, off, rfl, hg, t1, x1, hiv1, c0⟩ := hat 0 (by simp)
  obtain ⟨g', off', he, hg', t2, x2, hiv2, c1⟩ := hat 1 (by simp)
  cases he
  rw [Nat.add_zero] at c0
  have HV1 := hide (show IV w n (.iface t1 x1) d1 from hiv1)
  have HV2 := hide (show IV w n (.iface t2 x2) d2 from hiv2)
  have HOF := hide hof
  clear hat hrow hds hof hiv1 hiv2
  unfold maxLen at hc2
  rw [show ([d1, d2] : List D).length = 2 from rfl] at *
  generalize hx : exprF n d2 = ex at *
  have HX := hide hx.symm
  generalize hvd : varD d1 = vd at *
  have HVD := hide hvd
  clear hx hvd
  go_enter Tryz.func146, Tryz.ntmps146
  go_wp2_with fail
  refine (ivariable_any n d1 (.iface t1 x1) _ HV1.out).mono ?_
  rintro e w2 ⟨⟨tt, rfl, htt⟩, rfl⟩
  have HTT := hide (show vd = true → tt.size + 1 ≤ wtD d1 from fun h => by
    have h1 := htt (by rw [HVD.out]; exact h)
    have h2 := nameD_wt d1
    have h3 : tt.size = (nameD d1).length := by rw [← h1]; exact (Array.length_toList).symm
    omega)
  clear htt
  rw [HVD.out]
  go_wp2_with fail
  refine (HOF.out d2 (.iface t2 x2) _ ex HV2.out HX).mono ?_
  rintro e w3 ⟨⟨u, rfl, hu⟩, hb⟩
  have HB := hide hb
  have HU := hide hu
  clear hu hb
  cases vd with
  | false =>
    have hr : r = false := by rw [HR.out]; rfl
    subst hr
    clear HR
    go_wp2
    go_ret3
    exact ⟨⟨_, _, rfl, fun h => by cases h⟩, HB.out⟩
  | true =>
    have hr : r = ex := by rw [HR.out]; rfl
    subst hr
    clear HR
    go_wp2
    go_ret3
    exact ⟨⟨_, _, rfl, fun h => (HU.out h).elim fun k hk => ⟨k, by have := HTT.out (by first | exact trivial | rfl); omega, hk.2⟩⟩, HB.out⟩

set_option maxHeartbeats 2000000 in
theorem nv_not (n : Nat) (vs : List Value) (ds : List D) (v : Value) (w : World) (hrow : RowQ w v vs) (hds : IVs w n vs ds) (hlen : ds.length ≤ 1000) (h2 : ¬ ds.length = 2) :
    Calls Tryz.prog 146 #[v] w (NvPost w 0 false) := by
  obtain ⟨a, cap, rfl, hc1, hc2, hat⟩ := rowQ_at hrow hds
  unfold maxLen at hc2
  have b1 : ((ds.length : Int) != 2) = true := by simp; omega
  clear hat hrow hds h2
  go_enter Tryz.func146, Tryz.ntmps146
  go_wp2
  go_ret3
  exact ⟨⟨_, _, rfl, fun h => by cases h⟩, Below.refl _ _⟩

/-- nameAndValue of any parts. -/
theorem nv_go (n : Nat) (hof : OfC n) (vs : List Value) (ds : List D) (v : Value) (w : World) (hrow : RowQ w v vs) (hds : IVs w n vs ds) (hlen : ds.length ≤ 1000) (r : Bool) (HR : Hid (r = (decide (ds.length = 2) && varD (ds.getD 0 (lst [])) && (ds.drop 1).all (exprF n)))) :
    Calls Tryz.prog 146 #[v] w (NvPost w (wtL ds) r) := by
  by_cases h2 : ds.length = 2
  · obtain ⟨d1, d2, rfl⟩ := two_of h2
    refine (nv_two n hof vs d1 d2 v w hrow hds r (by show _ = _; rw [HR.out]; simp)).mono ?_
    rintro e w' ⟨⟨s, u, he, hu⟩, hb⟩
    refine ⟨⟨s, u, he, fun h => ?_⟩, hb⟩
    obtain ⟨k, hk, hev⟩ := hu h
    exact ⟨k, by simp [wtL]; omega, hev⟩
  · have hr : r = false := by rw [HR.out]; simp [h2]
    subst hr
    refine (nv_not n vs ds v w hrow hds hlen h2).mono ?_
    rintro e w' ⟨⟨s, u, he, hu⟩, hb⟩
    exact ⟨⟨s, u, he, fun h => by cases h⟩, hb⟩

set_option maxHeartbeats 2000000 in
theorem set_go (n : Nat) (hof : OfC n) (vs : List Value) (ds : List D) (v : Value) (w : World) (hrow : RowQ w v vs) (hds : IVs w n vs ds) (hlen : ds.length ≤ 1000) (r : Bool) (HR : Hid (r = (decide (ds.length = 2) && varD (ds.getD 0 (lst [])) && (ds.drop 1).all (exprF n)))) :
    Calls Tryz.prog 92 #[v] w (OfPost w (wtL ds + 1) r) := by
  have HN := hide (nv_go n hof vs ds v w hrow hds hlen r HR)
  clear hof hrow hds HR hlen
  go_enter Tryz.func92, Tryz.ntmps92
  go_wp2_with fail
  refine HN.out.mono ?_
  rintro e w2 ⟨⟨s, u, rfl, hu⟩, hb⟩
  have HB := hide hb
  clear HN hb
  cases r with
  | false =>
    clear hu
    go_wp2
    go_ret2
    exact ⟨⟨_, rfl, fun h => by cases h⟩, HB.out⟩
  | true =>
    obtain ⟨k, hk, hev⟩ := hu rfl
    obtain ⟨t, x, rfl⟩ := hev.form
    have HE := hide hev
    clear hu hev
    go_wp2
    go_ret2
    exact ⟨⟨_, rfl, fun _ => ⟨_, by omega, .set _ HE.out⟩⟩, HB.out⟩
end Go.Proofs.YtlobegpjenabaaaGreatDoor
