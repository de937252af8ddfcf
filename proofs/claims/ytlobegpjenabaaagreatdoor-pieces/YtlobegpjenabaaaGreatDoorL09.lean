/- expr: sequence, application, quote, reference, procedure. -/
import Derived.Test.YtlobegpjenabaaaGreatDoorL08
namespace Go.Proofs.YtlobegpjenabaaaGreatDoor
open Go.RowKit
set_option linter.unusedSimpArgs false
set_option linter.unusedVariables false

theorem rowE_of {w w' : World} {u : Value} {es : List Value} (h : w'.ownsRow w.heap.size 83 1 u es.length es) : RowE w' (fun g => w.heap.size ≤ g) u es := ⟨ownsRow_base h (Nat.zero_le _), fun g hg => (ownsRow_ge h hg).1⟩
theorem evs_of {w w' : World} {u : Value} {es : List Value} {k : List E} (h : EVs w' (fun g => w.heap.size ≤ g ∧ ¬ u.ownBlock = some g) k es) : EVs w' (fun g => w.heap.size ≤ g) k es := h.imp (Keep.refl _) fun g o hg ho => ⟨ho, hg.1⟩

set_option maxHeartbeats 2000000 in
theorem application_go (n : Nat) (hof : OfC n) (vs : List Value) (ds : List D) (v : Value) (w : World) (hrow : RowQ w v vs) (hds : IVs w n vs ds) (hlen : ds.length ≤ 1000) (hpos : 0 < ds.length) (r : Bool) (HR : Hid (r = ds.all (exprF n))) :
    Calls Tryz.prog 96 #[v] w (OfPost w (fun e => (eachS (exprS n) ds).map .apply = some e) r) := by
  have HE := hide (each_go n hof vs ds v w hrow hds hlen r HR)
  clear hof hrow hds HR
  go_enter Tryz.func96, Tryz.ntmps96
  go_wp2_with fail
  refine HE.out.mono ?_
  rintro e w2 ⟨⟨u, rfl, h0, h1⟩, hb⟩
  have HB := hide hb
  clear hb HE
  cases r with
  | false =>
    clear h0 h1
    go_wp2
    go_ret2
    exact ⟨⟨_, rfl, fun h => by cases h⟩, HB.out⟩
  | true =>
    obtain ⟨es, k, hk, hl, hr, he⟩ := h1 rfl
    have HKE := hide hk
    clear hk
    have HR := hide (EV.apply (rowE_of hr) (by omega) (evs_of he))
    obtain ⟨a, cap, rfl, _, _, _⟩ := ownsRow_slice hr
    clear h0 h1 hr he hl hpos hlen
    go_wp2
    go_ret2
    exact ⟨⟨_, rfl, fun _ => ⟨.apply k, by rw [HKE.out]; rfl, HR.out⟩⟩, HB.out⟩

theorem evs_one {w : World} {P : Nat → Prop} {k : List E} {es : List Value} (h : EVs w P k es) (hl : es.length = 1) : ∃ x kx, es = [x] ∧ k = [kx] ∧ EV w P kx x := by
  cases h with
  | nil => cases hl
  | cons a b =>
    rename_i n m e r
    have : r = [] := List.length_eq_zero_iff.1 (by simpa using hl)
    subst this
    cases b
    exact ⟨e, _, rfl, rfl, a⟩

set_option maxHeartbeats 2000000 in
theorem sequence_go (n : Nat) (hof : OfC n) (vs : List Value) (ds : List D) (v : Value) (w : World) (hrow : RowQ w v vs) (hds : IVs w n vs ds) (hlen : ds.length ≤ 1000) (r : Bool) (HR : Hid (r = (decide (0 < ds.length) && ds.all (exprF n)))) :
    Calls Tryz.prog 94 #[v] w (OfPost w (fun e => bodyS (exprS n) ds = some e) r) := by
  cases hall : ds.all (exprF n) with
  | false =>
    have HE := hide (each_go n hof vs ds v w hrow hds hlen false hall.symm)
    have hr : r = false := by rw [HR.out, hall, Bool.and_false]
    subst hr
    clear hof hrow hds HR hall
    go_enter Tryz.func94, Tryz.ntmps94
    go_wp2_with fail
    refine HE.out.mono ?_
    rintro e w2 ⟨⟨u, rfl, h0, h1⟩, hb⟩
    have HB := hide hb
    clear hb HE h0 h1
    go_wp2
    go_ret2
    exact ⟨⟨_, rfl, fun h => by cases h⟩, HB.out⟩
  | true =>
    have HE := hide (each_go n hof vs ds v w hrow hds hlen true hall.symm)
    have hrd : r = decide (0 < ds.length) := by rw [HR.out, hall, Bool.and_true]
    clear hof hrow hds HR hall
    go_enter Tryz.func94, Tryz.ntmps94
    go_wp2_with fail
    refine HE.out.mono ?_
    rintro e w2 ⟨⟨u, rfl, h0, h1⟩, hb⟩
    obtain ⟨es, k, hk, hl, hrw, he⟩ := h1 rfl
    have HKE := hide hk
    have HKL := hide he.length
    clear hk
    have HB := hide hb
    obtain ⟨a, cap, rfl, hc1, hc2, hat⟩ := ownsRow_slice hrw
    unfold maxLen at hc2
    clear hb HE h0 h1
    by_cases hz : es.length = 0
    · have hr : r = false := by rw [hrd]; exact decide_eq_false (by omega)
      subst hr
      clear hrd
      have b1 : ((es.length : Int) == 0) = true := by rw [beq_iff_eq]; omega
      clear hrw he hat hl hz hlen
      go_wp2
      go_ret2
      exact ⟨⟨_, rfl, fun h => by cases h⟩, HB.out⟩
    · have hr : r = true := by rw [hrd]; exact decide_eq_true (by omega)
      subst hr
      clear hrd
      have b1 : ((es.length : Int) == 0) = false := by rw [beq_eq_false_iff_ne]; omega
      by_cases ho : es.length = 1
      · have b2 : ((es.length : Int) == 1) = true := by rw [beq_iff_eq]; omega
        rw [ho] at hc1
        rw [ho]
        obtain ⟨x, kx, rfl, rfl, hx⟩ := evs_one (evs_of he) ho
        obtain ⟨t, y, rfl⟩ := hx.form
        obtain ⟨g, rfl, _, hg, hc⟩ := hat (by simp)
        have c0 := hc 0 _ rfl
        have HX := hide hx
        clear hrw he hat hx hc b1 b2 hl hz ho hlen
        go_wp2
        go_ret2
        exact ⟨⟨_, rfl, fun _ => ⟨kx, by unfold bodyS; rw [HKE.out]; rfl, HX.out⟩⟩, HB.out⟩
      · have b2 : ((es.length : Int) == 1) = false := by rw [beq_eq_false_iff_ne]; omega
        have HS := hide (EV.seq (rowE_of hrw) (by omega) (evs_of he))
        have HSS := hide (show seqS k = some (.seq k) from by
          have := HKL.out
          match k with
          | [] => simp at this; omega
          | [_] => simp at this; omega
          | _ :: _ :: _ => rfl)
        clear hrw he hat hl hz ho hlen
        go_wp2
        go_ret2
        exact ⟨⟨_, rfl, fun _ => ⟨.seq k, by unfold bodyS; rw [HKE.out]; exact HSS.out, HS.out⟩⟩, HB.out⟩

set_option maxHeartbeats 2000000 in
theorem quote_go (n : Nat) (vs : List Value) (ds : List D) (v : Value) (w : World) (hrow : RowQ w v vs) (hds : IVs w n vs ds) (hlen : ds.length ≤ 1000) (r : Bool) (HR : Hid (r = decide (ds.length = 1))) :
    Calls Tryz.prog 89 #[v] w (OfPost w (fun e => quoS ds = some e) r) := by
  obtain ⟨a, cap, rfl, hc1, hc2, hat⟩ := rowQ_at hrow hds
  have HAT := hide hat
  unfold maxLen at hc2
  clear hat hrow hds
  by_cases h1 : ds.length = 1
  · have hr : r = true := by rw [HR.out]; exact decide_eq_true h1
    subst hr
    obtain ⟨g, off, rfl, hg, t, x, hiv, c0⟩ := HAT.out 0 (by omega)
    rw [Nat.add_zero] at c0
    rw [h1] at hc1
    rw [h1]
    have HQ := hide (show ∃ dq, quoS ds = some (.const dq) ∧ IV w n (.iface t x) dq from by
      match ds, h1, hiv with
      | [d], _, hiv => exact ⟨d, rfl, hiv⟩)
    clear HAT HR hiv h1 hlen
    go_enter Tryz.func89, Tryz.ntmps89
    go_wp2
    go_ret2
    exact ⟨⟨_, rfl, fun _ => HQ.out.elim fun dq hq => ⟨_, hq.1, .const n _ _ _ hq.2⟩⟩, Below.refl _ _⟩
  · have hr : r = false := by rw [HR.out]; exact decide_eq_false h1
    subst hr
    have b1 : ((ds.length : Int) != 1) = true := by simp; omega
    clear HAT HR h1
    go_enter Tryz.func89, Tryz.ntmps89
    go_wp2
    go_ret2
    exact ⟨⟨_, rfl, fun h => by cases h⟩, Below.refl _ _⟩

set_option maxHeartbeats 2000000 in
theorem reference_go (s : ByteArray) (w : World) (r : Bool) (HR : Hid (r = !(kwB s.data.toList))) :
    Calls Tryz.prog 55 #[.string s] w (OfPost w (fun e => e = .var s.data.toList) r) := by
  go_enter Tryz.func55, Tryz.ntmps55
  go_wp2_with fail
  refine (ivariable_sym s _).mono ?_
  rintro e w2 ⟨⟨t, rfl, ht⟩, rfl⟩
  have HT := hide ht
  clear ht
  have HK := hide (show r = true → kwB s.data.toList = false from fun h => by have := HR.out; rw [h] at this; simpa using this.symm)
  rw [← HR.out]
  clear HR
  cases r with
  | false =>
    go_wp2
    go_ret2
    exact ⟨⟨_, rfl, fun h => by cases h⟩, Below.refl _ _⟩
  | true =>
    go_wp2
    go_ret2
    exact ⟨⟨_, rfl, fun _ => ⟨.var t.data.toList, by rw [HT.out (HK.out (by first | exact trivial | rfl))], .var t⟩⟩, Below.refl _ _⟩

theorem rowN_of {w w' : World} {u : Value} {zs : List ByteArray} (h : RowT w.heap.size w' u zs) : RowN w' (fun g => w.heap.size ≤ g) u zs := ⟨ownsRow_base h (Nat.zero_le _), fun g hg => (ownsRow_ge h hg).1⟩

set_option maxHeartbeats 2000000 in
theorem procedure_go (n m : Nat) (hof : OfC n) (ns vs : List Value) (nd ds : List D) (u v : Value) (w : World) (hrn : RowQ w u ns) (hnd : IVs w m ns nd) (hln : nd.length ≤ 1000) (hrow : RowQ w v vs) (hds : IVs w n vs ds) (hlen : ds.length ≤ 1000) (r : Bool) (HR : Hid (r = (varsL [] nd && (decide (0 < ds.length) && ds.all (exprF n))))) :
    Calls Tryz.prog 148 #[u, v] w (OfPost w (fun e => procS (exprS n) nd ds = some e) r) := by
  have HN := hide (ivariables_go m ns nd u w hrn hnd hln (varsL [] nd) rfl)
  have HS := hide (fun (w2 : World) (hb : Below w.heap.size w w2) => sequence_go n hof vs ds v w2 (hrow.below hb) (IVs.keep (Keep.of_below hb) _ _ _ hds) hlen (decide (0 < ds.length) && ds.all (exprF n)) rfl)
  clear hrn hnd hrow hds hof
  generalize (decide (0 < ds.length) && ds.all (exprF n)) = r2 at *
  obtain ⟨r1, hr1⟩ : ∃ r1, r1 = varsL [] nd := ⟨_, rfl⟩
  have HVN := hide hr1.symm
  rw [← hr1] at HN HR
  clear hr1
  obtain ⟨a0, hv0⟩ : ∃ x, x = v := ⟨_, rfl⟩
  go_enter Tryz.func148, Tryz.ntmps148
  go_wp2_with fail
  refine HN.out.mono ?_
  rintro e w2 ⟨⟨u2, rfl, hu2⟩, hb⟩
  have HU2 := hide hu2
  have HB := hide hb
  clear hu2 hb HN
  go_wp2_with fail
  refine (HS.out _ HB.out).mono ?_
  rintro e w3 ⟨⟨u3, rfl, hu3⟩, hb⟩
  have HU3 := hide hu3
  have HB3 := hide hb
  clear hu3 hb HS
  have HBB := hide (HB.out.trans (HB3.out.mono HB.out.size))
  cases r1 with
  | false =>
    have hr : r = false := by rw [HR.out]; rfl
    subst hr
    clear HR
    go_wp2
    go_ret2
    exact ⟨⟨_, rfl, fun h => by cases h⟩, HBB.out⟩
  | true =>
    cases r2 with
    | false =>
      have hr : r = false := by rw [HR.out]; rfl
      subst hr
      clear HR
      go_wp2
      go_ret2
      exact ⟨⟨_, rfl, fun h => by cases h⟩, HBB.out⟩
    | true =>
      have hr : r = true := by rw [HR.out]; rfl
      subst hr
      clear HR
      obtain ⟨zs, hz, hzl⟩ := HU2.out rfl
      obtain ⟨k, hk, hev⟩ := HU3.out rfl
      obtain ⟨t, x, rfl⟩ := hev.form
      have hs2 := HB.out.size
      have HL := hide (EV.lambda ⟨#[]⟩ (RowN.imp (w' := w3) (P' := fun g => w.heap.size ≤ g) (fun g o hg ho => ⟨by rw [HB3.out.block g (lt_of_some ho)]; exact ho, hg⟩) (rowN_of hz)) (hev.imp (P' := fun g => w.heap.size ≤ g) (Keep.refl _) fun g o hg ho => ⟨ho, Nat.le_trans hs2 hg⟩))
      obtain ⟨a, cap, rfl, _, _, _⟩ := ownsRow_slice hz
      clear HU2 HU3 hev hz
      have HZ := hide (show procS (exprS n) nd ds = some (.lambda [] (bytesOf zs) k) from by
        unfold procS
        rw [HVN.out, if_pos rfl, hk]
        show some (E.lambda [] (nd.map nameD) k) = _
        rw [← hzl]; rfl)
      clear hzl
      go_wp2
      go_ret2
      exact ⟨⟨_, rfl, fun _ => ⟨_, HZ.out, HL.out⟩⟩, HBB.out⟩
end Go.Proofs.YtlobegpjenabaaaGreatDoor

/- expr: nameAndValue, set. -/
namespace Go.Proofs.YtlobegpjenabaaaGreatDoor
open Go.RowKit
set_option linter.unusedSimpArgs false
set_option linter.unusedVariables false

def NvPost (w : World) (Q : List UInt8 → E → Prop) (r : Bool) (e : Ending) (w' : World) : Prop :=
  (∃ s u, e = .returned (.tuple #[.string s, u, .bool r]) ∧ (r = true → ∃ k, Q s.data.toList k ∧ EV w' (fun g => w.heap.size ≤ g) k u)) ∧ Below w.heap.size w w'

theorem two_of {ds : List D} (h : ds.length = 2) : ∃ a b, ds = [a, b] := by
  match ds, h with
  | [a, b], _ => exact ⟨a, b, rfl⟩

set_option maxHeartbeats 2000000 in
theorem nv_two (n : Nat) (hof : OfC n) (vs : List Value) (d1 d2 : D) (v : Value) (w : World) (hrow : RowQ w v vs) (hds : IVs w n vs [d1, d2]) (r : Bool) (HR : Hid (r = (varD d1 && exprF n d2))) :
    Calls Tryz.prog 146 #[v] w (NvPost w (fun nm k => varD d1 = true ∧ nm = nameD d1 ∧ exprS n d2 = some k) r) := by
  obtain ⟨a, cap, rfl, hc1, hc2, hat⟩ := rowQ_at hrow hds
  obtain ⟨g, off, rfl, hg, t1, x1, hiv1, c0⟩ := hat 0 (by simp)
  obtain ⟨g', off', he, hg', t2, x2, hiv2, c1⟩ := hat 1 (by simp)
  cases he
  rw [Nat.add_zero] at c0
  have HV1 := hide (show IV w n (.iface t1 x1) d1 from hiv1)
  have HV2 := hide (show IV w n (.iface t2 x2) d2 from hiv2)
  have HOF := hide hof
  clear hat hrow hds hof hiv1 hiv2
  unfold maxLen at hc2
  rw [show ([d1, d2] : List D).length = 2 from rfl] at *
  generalize hx : exprF n d2 = ex at *
  have HX := hide hx.symm
  generalize hvd : varD d1 = vd at *
  have HVD := hide hvd
  clear hx hvd
  go_enter Tryz.func146, Tryz.ntmps146
  go_wp2_with fail
  refine (ivariable_any n d1 (.iface t1 x1) _ HV1.out).mono ?_
  rintro e w2 ⟨⟨tt, rfl, htt⟩, rfl⟩
  have HTT := hide (show vd = true → tt.data.toList = nameD d1 from fun h => htt (by rw [HVD.out]; exact h))
  clear htt
  rw [HVD.out]
  go_wp2_with fail
  refine (HOF.out d2 (.iface t2 x2) _ ex HV2.out HX).mono ?_
  rintro e w3 ⟨⟨u, rfl, hu⟩, hb⟩
  have HB := hide hb
  have HU := hide hu
  clear hu hb
  cases vd with
  | false =>
    have hr : r = false := by rw [HR.out]; rfl
    subst hr
    clear HR
    go_wp2
    go_ret3
    exact ⟨⟨_, _, rfl, fun h => by cases h⟩, HB.out⟩
  | true =>
    have hr : r = ex := by rw [HR.out]; rfl
    subst hr
    clear HR
    go_wp2
    go_ret3
    exact ⟨⟨_, _, rfl, fun h => (HU.out h).elim fun k hk => ⟨k, by first | exact ⟨HVD.out, HTT.out (by first | exact trivial | rfl), hk.1⟩ | exact ⟨HTT.out (by first | exact trivial | rfl), hk.1⟩ | exact ⟨rfl, HTT.out (by first | exact trivial | rfl), hk.1⟩, hk.2⟩⟩, HB.out⟩

set_option maxHeartbeats 2000000 in
theorem nv_not (n : Nat) (vs : List Value) (ds : List D) (v : Value) (w : World) (hrow : RowQ w v vs) (hds : IVs w n vs ds) (hlen : ds.length ≤ 1000) (h2 : ¬ ds.length = 2) :
    Calls Tryz.prog 146 #[v] w (NvPost w (fun _ _ => False) false) := by
  obtain ⟨a, cap, rfl, hc1, hc2, hat⟩ := rowQ_at hrow hds
  unfold maxLen at hc2
  have b1 : ((ds.length : Int) != 2) = true := by simp; omega
  clear hat hrow hds h2
  go_enter Tryz.func146, Tryz.ntmps146
  go_wp2
  go_ret3
  exact ⟨⟨_, _, rfl, fun h => by cases h⟩, Below.refl _ _⟩

/-- nameAndValue of any parts. -/
theorem nv_go (n : Nat) (hof : OfC n) (vs : List Value) (ds : List D) (v : Value) (w : World) (hrow : RowQ w v vs) (hds : IVs w n vs ds) (hlen : ds.length ≤ 1000) (r : Bool) (HR : Hid (r = (decide (ds.length = 2) && varD (ds.getD 0 (lst [])) && (ds.drop 1).all (exprF n)))) :
    Calls Tryz.prog 146 #[v] w (NvPost w (fun nm k => ∀ mk, nvS (exprS n) mk ds = some (mk nm k)) r) := by
  by_cases h2 : ds.length = 2
  · obtain ⟨d1, d2, rfl⟩ := two_of h2
    refine (nv_two n hof vs d1 d2 v w hrow hds r (by show _ = _; rw [HR.out]; simp)).mono ?_
    rintro e w' ⟨⟨s, u, he, hu⟩, hb⟩
    refine ⟨⟨s, u, he, fun h => ?_⟩, hb⟩
    obtain ⟨k, hk, hev⟩ := hu h
    refine ⟨k, fun mk => ?_, hev⟩
    rw [hk.2.1]
    simp only [nvS]
    rw [if_pos hk.1, hk.2.2]; rfl
  · have hr : r = false := by rw [HR.out]; simp [h2]
    subst hr
    refine (nv_not n vs ds v w hrow hds hlen h2).mono ?_
    rintro e w' ⟨⟨s, u, he, hu⟩, hb⟩
    exact ⟨⟨s, u, he, fun h => by cases h⟩, hb⟩

set_option maxHeartbeats 2000000 in
theorem set_go (n : Nat) (hof : OfC n) (vs : List Value) (ds : List D) (v : Value) (w : World) (hrow : RowQ w v vs) (hds : IVs w n vs ds) (hlen : ds.length ≤ 1000) (r : Bool) (HR : Hid (r = (decide (ds.length = 2) && varD (ds.getD 0 (lst [])) && (ds.drop 1).all (exprF n)))) :
    Calls Tryz.prog 92 #[v] w (OfPost w (fun e => nvS (exprS n) .set ds = some e) r) := by
  have HN := hide (nv_go n hof vs ds v w hrow hds hlen r HR)
  clear hof hrow hds HR hlen
  go_enter Tryz.func92, Tryz.ntmps92
  go_wp2_with fail
  refine HN.out.mono ?_
  rintro e w2 ⟨⟨s, u, rfl, hu⟩, hb⟩
  have HB := hide hb
  clear HN hb
  cases r with
  | false =>
    clear hu
    go_wp2
    go_ret2
    exact ⟨⟨_, rfl, fun h => by cases h⟩, HB.out⟩
  | true =>
    obtain ⟨k, hk, hev⟩ := hu rfl
    obtain ⟨t, x, rfl⟩ := hev.form
    have HE := hide hev
    have HKN := hide hk
    clear hu hev hk
    go_wp2
    go_ret2
    exact ⟨⟨_, rfl, fun _ => ⟨_, HKN.out _, .set _ HE.out⟩⟩, HB.out⟩
end Go.Proofs.YtlobegpjenabaaaGreatDoor

/- expr: lambda. -/
namespace Go.Proofs.YtlobegpjenabaaaGreatDoor
open Go.RowKit
set_option linter.unusedSimpArgs false
set_option linter.unusedVariables false

/-- All but the first. -/
theorem RowQ.tail {w : World} {g off n cap : Nat} {x : Value} {vs : List Value} (h : RowQ w (.slice (some ⟨g, off, none⟩) (n + 1) cap) (x :: vs)) (hn : vs.length = n) : RowQ w (.slice (some ⟨g, off + 1, none⟩) n (cap - 1)) vs := by
  obtain ⟨a, c, hv, h1, h2, h3⟩ := h
  cases hv
  simp only [List.length_cons] at h1
  refine ⟨_, _, by rw [hn], by omega, by omega, fun hp => ?_⟩
  obtain ⟨g', off', ha, hg, hc⟩ := h3 (by simp)
  cases ha
  exact ⟨g, off + 1, rfl, hg, fun j u hj => by rw [Nat.add_assoc, Nat.add_comm 1 j]; exact hc (j + 1) u hj⟩

/-- The row of nothing. -/
theorem RowQ.none (w : World) (a : Option Addr) : RowQ w (.slice a 0 0) [] := ⟨a, 0, rfl, Nat.le_refl _, Nat.zero_le _, fun h => absurd h (by simp)⟩
theorem OfPost.mono {w w' : World} {m m' : E → Prop} {r : Bool} {e : Ending} (h : OfPost w m r e w') (hm : ∀ k, m k → m' k) : OfPost w m' r e w' := by
  obtain ⟨⟨u, he, hu⟩, hb⟩ := h
  refine ⟨⟨u, he, fun hr => ?_⟩, hb⟩
  obtain ⟨k, hk, hev⟩ := hu hr
  exact ⟨k, hm k hk, hev⟩
/-- The same, of a world that came out of an elder one. -/
theorem OfPost.since {w w2 w' : World} {m : E → Prop} {r : Bool} {e : Ending} (h : OfPost w2 m r e w') (hb : Below w.heap.size w w2) : OfPost w m r e w' := by
  obtain ⟨⟨u, he, hu⟩, hb2⟩ := h
  refine ⟨⟨u, he, fun hr => ?_⟩, hb.trans (hb2.mono hb.size)⟩
  obtain ⟨k, hk, hev⟩ := hu hr
  exact ⟨k, hk, hev.imp (Keep.refl _) fun g o hg ho => ⟨ho, Nat.le_trans hb.size hg⟩⟩
set_option maxRecDepth 100000 in
set_option maxHeartbeats 2000000 in
theorem lambda_go (n : Nat) (hof : OfC (n + 1)) (x : Value) (vs : List Value) (d : D) (ds : List D) (v : Value) (w : World) (hrow : RowQ w v (x :: vs)) (hds : IVs w (n + 1) (x :: vs) (d :: ds)) (hlen : (d :: ds).length ≤ 1000) (r : Bool) (HR : Hid (r = (isList d && (varsL [] (itemsD d) && (decide (0 < ds.length) && ds.all (exprF (n + 1))))))) :
    Calls Tryz.prog 93 #[v] w (OfPost w (fun e => procS (exprS (n + 1)) (itemsD d) ds = some e) r) := by
  have hlv := hds.2.length
  have hid := hds.1.len
  have HDS := hide hds
  have HRW := hide hrow
  obtain ⟨a, cap, rfl, hc1, hc2, hat⟩ := rowQ_at hrow hds
  obtain ⟨g, off, rfl, hg, t1, x1, hiv1, c0⟩ := hat 0 (by simp)
  rw [Nat.add_zero] at c0
  have HV1 := hide (show IV w (n + 1) (.iface t1 x1) d from hiv1)
  clear hat hrow hds hiv1
  unfold maxLen at hc2
  simp only [List.length_cons] at *
  have HOF := hide hof
  have HLV := hide hlv
  clear hof
  have b0 : (((ds.length : Int) + 1) == 0) = false := by rw [beq_eq_false_iff_ne]; omega
  go_enter Tryz.func93, Tryz.ntmps93
  go_wp2_with fail
  refine (iitems_any n d (.iface t1 x1) _ HV1.out).mono ?_
  rintro e w2 ⟨u, us, rfl, hru, hus, hb⟩
  have HRU := hide hru
  have HUS := hide hus
  have HB := hide hb
  clear hru hus hb
  cases hil : isList d with
  | false =>
    have hr : r = false := by rw [HR.out, hil]; rfl
    subst hr
    clear HR hil
    go_wp2
    go_ret2
    exact ⟨⟨_, rfl, fun h => by cases h⟩, HB.out⟩
  | true =>
    have HR2 := hide (show r = (varsL [] (itemsD d) && (decide (0 < ds.length) && ds.all (exprF (n + 1)))) from by rw [HR.out, hil]; rfl)
    clear HR hil
    have HP := hide (fun (tl : Value) (htl : RowQ w2 tl vs) => procedure_go (n + 1) n HOF.out us vs (itemsD d) ds u tl w2 (RowI.q HRU.out) HUS.out hid htl (IVs.keep (Keep.of_below HB.out) _ _ _ HDS.out.2) (by omega) r HR2)
    have HQ := hide (HRW.out.below HB.out)
    clear HRU HUS hid HDS HV1 HRW HR2 hlv c0
    by_cases hcap : cap = 1
    · have hz : vs = [] := List.length_eq_zero_iff.1 (by have := HLV.out; omega)
      have hz2 : ds.length = 0 := by omega
      have HZ := hide hz
      rw [hz2]
      clear hz hlen hc1
      subst hcap
      go_wp2_with fail
      refine (HP.out _ (by rw [HZ.out]; exact RowQ.none _ _)).mono ?_
      intro e w3 h3
      have HPost := hide (h3.since HB.out)
      obtain ⟨⟨u3, rfl, _⟩, _⟩ := h3
      go_wp2
      go_ret2
      exact HPost.out
    · go_wp2_with fail
      refine (HP.out _ (RowQ.tail HQ.out HLV.out)).mono ?_
      intro e w3 h3
      have HPost := hide (h3.since HB.out)
      obtain ⟨⟨u3, rfl, _⟩, _⟩ := h3
      go_wp2
      go_ret2
      exact HPost.out

set_option maxHeartbeats 2000000 in
theorem lambda_nil (a : Option Addr) (cap : Nat) (w : World) : Calls Tryz.prog 93 #[.slice a 0 cap] w (OfPost w (fun _ => False) false) := by
  go_enter Tryz.func93, Tryz.ntmps93
  go_wp2
  go_ret2
  exact ⟨⟨_, rfl, fun h => by cases h⟩, Below.refl _ _⟩
theorem define_nil (a : Option Addr) (cap : Nat) (w : World) : Calls Tryz.prog 91 #[.slice a 0 cap] w (OfPost w (fun _ => False) false) := by
  go_enter Tryz.func91, Tryz.ntmps91
  go_wp2
  go_ret2
  exact ⟨⟨_, rfl, fun h => by cases h⟩, Below.refl _ _⟩
theorem let_nil (a : Option Addr) (cap : Nat) (w : World) : Calls Tryz.prog 95 #[.slice a 0 cap] w (OfPost w (fun _ => False) false) := by
  go_enter Tryz.func95, Tryz.ntmps95
  go_wp2
  go_ret2
  exact ⟨⟨_, rfl, fun h => by cases h⟩, Below.refl _ _⟩

/-- lambda of any parts. -/
theorem lambda_any (n : Nat) (hof : OfC n) (vs : List Value) (ds : List D) (v : Value) (w : World) (hrow : RowQ w v vs) (hds : IVs w n vs ds) (hlen : ds.length ≤ 1000) (r : Bool) (HR : Hid (r = (decide (2 ≤ ds.length) && isList (ds.getD 0 (num 0)) && varsL [] (itemsD (ds.getD 0 (num 0))) && (ds.drop 1).all (exprF n)))) :
    Calls Tryz.prog 93 #[v] w (OfPost w (fun e => lamS (exprS n) ds = some e) r) := by
  match vs, ds, hds with
  | [], [], _ =>
    obtain ⟨a, cap, rfl, _⟩ := hrow
    have hr : r = false := by rw [HR.out]; rfl
    subst hr
    exact (lambda_nil a cap w).mono fun e w' h => h.mono (fun _ hk => hk.elim)
  | x :: vs, d :: ds, hds =>
    cases n with
    | zero => exact hds.1.elim
    | succ n =>
      have hr : r = (isList d && (varsL [] (itemsD d) && (decide (0 < ds.length) && ds.all (exprF (n + 1))))) := by
        rw [HR.out]
        have : decide (2 ≤ (d :: ds).length) = decide (0 < ds.length) := by simp; omega
        rw [this]
        simp only [List.getD_cons_zero, List.drop_succ_cons, List.drop_zero]
        cases decide (0 < ds.length) <;> simp [Bool.and_assoc]
      by_cases hi : isList d = true
      · exact (lambda_go n hof x vs d ds v w hrow hds hlen r hr).mono fun e w' h => h.mono (fun k hk => by rw [lamS, if_pos hi]; exact hk)
      · have hf : r = false := by rw [hr]; simp [hi]
        subst hf
        refine (lambda_go n hof x vs d ds v w hrow hds hlen false hr).mono fun e w' h => ?_
        obtain ⟨⟨u, he, hu⟩, hb⟩ := h
        exact ⟨⟨u, he, fun h => by cases h⟩, hb⟩
end Go.Proofs.YtlobegpjenabaaaGreatDoor

/- expr: defineAs, defineProcedure, define. -/
namespace Go.Proofs.YtlobegpjenabaaaGreatDoor
open Go.RowKit
set_option linter.unusedSimpArgs false
set_option linter.unusedVariables false

theorem as_lam (a b c : Value) (w : World) : (Instr.typeAssert (.iface 277 (.agg #[a, b, c])) 83 277 true).run Tryz.prog w = .ok (.tuple #[.agg #[a, b, c], .bool true]) w := by kernel_rfl
/-- What defineAs comes to. -/
def DefPost (w : World) (P : Nat → Prop) (m : E) (e : Ending) (w' : World) : Prop :=
  (∃ v, e = .returned v ∧ EV w' P m v) ∧ Below w.heap.size w w'

theorem as_lam_Const (v : Value) (w : World) : (Instr.typeAssert (.iface 133 v) 83 277 true).run Tryz.prog w = .ok (.tuple #[.agg #[.string ⟨#[]⟩, .slice none 0 0, .nilIface], .bool false]) w := by kernel_rfl
set_option maxHeartbeats 1000000 in
theorem defineAs_Const (s : ByteArray) (x : Value) (w : World) :
    Calls Tryz.prog 147 #[.string s, .iface 133 x] w fun e w' => e = .returned (.iface 279 (.agg #[.string s, .iface 133 x])) ∧ Below w.heap.size w w' := by
  have hta := as_lam_Const
  have HB := hide (fun o => (Below.refl w.heap.size w).alloc (Nat.le_refl _) o)
  go_enter Tryz.func147, Tryz.ntmps147
  go_wp2
  go_ret
  exact ⟨rfl, by first | exact HB.out _ | exact ((HB.out _).setCell _ _ (Nat.le_refl _))⟩
theorem as_lam_Var (v : Value) (w : World) : (Instr.typeAssert (.iface 202 v) 83 277 true).run Tryz.prog w = .ok (.tuple #[.agg #[.string ⟨#[]⟩, .slice none 0 0, .nilIface], .bool false]) w := by kernel_rfl
set_option maxHeartbeats 1000000 in
theorem defineAs_Var (s : ByteArray) (x : Value) (w : World) :
    Calls Tryz.prog 147 #[.string s, .iface 202 x] w fun e w' => e = .returned (.iface 279 (.agg #[.string s, .iface 202 x])) ∧ Below w.heap.size w w' := by
  have hta := as_lam_Var
  have HB := hide (fun o => (Below.refl w.heap.size w).alloc (Nat.le_refl _) o)
  go_enter Tryz.func147, Tryz.ntmps147
  go_wp2
  go_ret
  exact ⟨rfl, by first | exact HB.out _ | exact ((HB.out _).setCell _ _ (Nat.le_refl _))⟩
theorem as_lam_If (v : Value) (w : World) : (Instr.typeAssert (.iface 261 v) 83 277 true).run Tryz.prog w = .ok (.tuple #[.agg #[.string ⟨#[]⟩, .slice none 0 0, .nilIface], .bool false]) w := by kernel_rfl
set_option maxHeartbeats 1000000 in
theorem defineAs_If (s : ByteArray) (x : Value) (w : World) :
    Calls Tryz.prog 147 #[.string s, .iface 261 x] w fun e w' => e = .returned (.iface 279 (.agg #[.string s, .iface 261 x])) ∧ Below w.heap.size w w' := by
  have hta := as_lam_If
  have HB := hide (fun o => (Below.refl w.heap.size w).alloc (Nat.le_refl _) o)
  go_enter Tryz.func147, Tryz.ntmps147
  go_wp2
  go_ret
  exact ⟨rfl, by first | exact HB.out _ | exact ((HB.out _).setCell _ _ (Nat.le_refl _))⟩
theorem as_lam_Define (v : Value) (w : World) : (Instr.typeAssert (.iface 279 v) 83 277 true).run Tryz.prog w = .ok (.tuple #[.agg #[.string ⟨#[]⟩, .slice none 0 0, .nilIface], .bool false]) w := by kernel_rfl
set_option maxHeartbeats 1000000 in
theorem defineAs_Define (s : ByteArray) (x : Value) (w : World) :
    Calls Tryz.prog 147 #[.string s, .iface 279 x] w fun e w' => e = .returned (.iface 279 (.agg #[.string s, .iface 279 x])) ∧ Below w.heap.size w w' := by
  have hta := as_lam_Define
  have HB := hide (fun o => (Below.refl w.heap.size w).alloc (Nat.le_refl _) o)
  go_enter Tryz.func147, Tryz.ntmps147
  go_wp2
  go_ret
  exact ⟨rfl, by first | exact HB.out _ | exact ((HB.out _).setCell _ _ (Nat.le_refl _))⟩
theorem as_lam_Set (v : Value) (w : World) : (Instr.typeAssert (.iface 267 v) 83 277 true).run Tryz.prog w = .ok (.tuple #[.agg #[.string ⟨#[]⟩, .slice none 0 0, .nilIface], .bool false]) w := by kernel_rfl
set_option maxHeartbeats 1000000 in
theorem defineAs_Set (s : ByteArray) (x : Value) (w : World) :
    Calls Tryz.prog 147 #[.string s, .iface 267 x] w fun e w' => e = .returned (.iface 279 (.agg #[.string s, .iface 267 x])) ∧ Below w.heap.size w w' := by
  have hta := as_lam_Set
  have HB := hide (fun o => (Below.refl w.heap.size w).alloc (Nat.le_refl _) o)
  go_enter Tryz.func147, Tryz.ntmps147
  go_wp2
  go_ret
  exact ⟨rfl, by first | exact HB.out _ | exact ((HB.out _).setCell _ _ (Nat.le_refl _))⟩
theorem as_lam_Seq (v : Value) (w : World) : (Instr.typeAssert (.iface 269 v) 83 277 true).run Tryz.prog w = .ok (.tuple #[.agg #[.string ⟨#[]⟩, .slice none 0 0, .nilIface], .bool false]) w := by kernel_rfl
set_option maxHeartbeats 1000000 in
theorem defineAs_Seq (s : ByteArray) (x : Value) (w : World) :
    Calls Tryz.prog 147 #[.string s, .iface 269 x] w fun e w' => e = .returned (.iface 279 (.agg #[.string s, .iface 269 x])) ∧ Below w.heap.size w w' := by
  have hta := as_lam_Seq
  have HB := hide (fun o => (Below.refl w.heap.size w).alloc (Nat.le_refl _) o)
  go_enter Tryz.func147, Tryz.ntmps147
  go_wp2
  go_ret
  exact ⟨rfl, by first | exact HB.out _ | exact ((HB.out _).setCell _ _ (Nat.le_refl _))⟩
theorem as_lam_Apply (v : Value) (w : World) : (Instr.typeAssert (.iface 273 v) 83 277 true).run Tryz.prog w = .ok (.tuple #[.agg #[.string ⟨#[]⟩, .slice none 0 0, .nilIface], .bool false]) w := by kernel_rfl
set_option maxHeartbeats 1000000 in
theorem defineAs_Apply (s : ByteArray) (x : Value) (w : World) :
    Calls Tryz.prog 147 #[.string s, .iface 273 x] w fun e w' => e = .returned (.iface 279 (.agg #[.string s, .iface 273 x])) ∧ Below w.heap.size w w' := by
  have hta := as_lam_Apply
  have HB := hide (fun o => (Below.refl w.heap.size w).alloc (Nat.le_refl _) o)
  go_enter Tryz.func147, Tryz.ntmps147
  go_wp2
  go_ret
  exact ⟨rfl, by first | exact HB.out _ | exact ((HB.out _).setCell _ _ (Nat.le_refl _))⟩
set_option maxHeartbeats 1000000 in
theorem defineAs_lam (s nm : ByteArray) (a : Option Addr) (n cap : Nat) (t : TypeId) (x : Value) (w : World) :
    Calls Tryz.prog 147 #[.string s, .iface 277 (.agg #[.string nm, .slice a n cap, .iface t x])] w fun e w' => e = .returned (.iface 279 (.agg #[.string s, .iface 277 (.agg #[.string s, .slice a n cap, .iface t x])])) ∧ Below w.heap.size w w' := by
  have hta := as_lam
  have HB := hide (fun o => (Below.refl w.heap.size w).alloc (Nat.le_refl _) o)
  go_enter Tryz.func147, Tryz.ntmps147
  go_wp2
  go_ret
  exact ⟨rfl, by first | exact HB.out _ | exact ((HB.out _).setCell _ _ (Nat.le_refl _)) | exact (((HB.out _).setCell _ _ (Nat.le_refl _)).setCell _ _ (Nat.le_refl _))⟩

theorem defineAs_any {w : World} {P : Nat → Prop} {k : E} {v : Value} (s : ByteArray) (h : EV w P k v) : Calls Tryz.prog 147 #[.string s, v] w (DefPost w P (asS s.data.toList k)) := by
  have kp : ∀ w', Below w.heap.size w w' → EV w' P k v := fun w' hb => h.kept hb fun g hg _ => hg
  cases h with
  | nothing => exact (defineAs_Const s _ w).mono fun e w' ⟨he, hb⟩ => ⟨⟨_, he, .define s (kp w' hb)⟩, hb⟩
  | const n t x d hd => exact (defineAs_Const s _ w).mono fun e w' ⟨he, hb⟩ => ⟨⟨_, he, .define s (kp w' hb)⟩, hb⟩
  | var z => exact (defineAs_Var s _ w).mono fun e w' ⟨he, hb⟩ => ⟨⟨_, he, .define s (kp w' hb)⟩, hb⟩
  | ite a b c => exact (defineAs_If s _ w).mono fun e w' ⟨he, hb⟩ => ⟨⟨_, he, .define s (kp w' hb)⟩, hb⟩
  | define z a => exact (defineAs_Define s _ w).mono fun e w' ⟨he, hb⟩ => ⟨⟨_, he, .define s (kp w' hb)⟩, hb⟩
  | set z a => exact (defineAs_Set s _ w).mono fun e w' ⟨he, hb⟩ => ⟨⟨_, he, .define s (kp w' hb)⟩, hb⟩
  | seq r h2 a => exact (defineAs_Seq s _ w).mono fun e w' ⟨he, hb⟩ => ⟨⟨_, he, .define s (kp w' hb)⟩, hb⟩
  | apply r h2 a => exact (defineAs_Apply s _ w).mono fun e w' ⟨he, hb⟩ => ⟨⟨_, he, .define s (kp w' hb)⟩, hb⟩
  | lambda nm hr a =>
    obtain ⟨t, x, rfl⟩ := a.form
    obtain ⟨ad, cap, rfl, _⟩ := ownsRow_slice hr.1
    refine (defineAs_lam s nm _ _ _ _ _ w).mono fun e w' ⟨he, hb⟩ => ⟨⟨_, he, .define s ?_⟩, hb⟩
    exact .lambda s (hr.imp fun g o hg ho => ⟨by rw [hb.block g (lt_of_some ho)]; exact ho, hg⟩) (a.kept hb fun g hg _ => hg)

set_option maxRecDepth 100000 in
set_option maxHeartbeats 2000000 in
theorem defProc_go (n m : Nat) (hof : OfC n) (x : Value) (hs vs : List Value) (d : D) (hd ds : List D) (u v : Value) (w : World) (hrn : RowQ w u (x :: hs)) (hhd : IVs w m (x :: hs) (d :: hd)) (hln : (d :: hd).length ≤ 1000) (hrow : RowQ w v vs) (hds : IVs w n vs ds) (hlen : ds.length ≤ 1000) (r : Bool)
    (HR : Hid (r = (varD d && (varsL [] hd && (decide (0 < ds.length) && ds.all (exprF n)))))) :
    Calls Tryz.prog 145 #[u, v] w (OfPost w (fun e => (procS (exprS n) hd ds).map (asS (nameD d)) = some e) r) := by
  have hlv := hhd.2.length
  have HRW := hide hrn
  have HP := hide (fun (tl : Value) (r2 : Bool) (htl : RowQ w tl hs) (hr2 : Hid (r2 = _)) => procedure_go n m hof hs vs hd ds tl v w htl hhd.2 (by simp at hln; omega) hrow hds hlen r2 hr2)
  obtain ⟨a, cap, rfl, hc1, hc2, hat⟩ := rowQ_at hrn hhd
  obtain ⟨g, off, rfl, hg, t1, x1, hiv1, c0⟩ := hat 0 (by simp)
  rw [Nat.add_zero] at c0
  have HV1 := hide (show IV w m (.iface t1 x1) d from hiv1)
  clear hat hrow hds hiv1 hrn hhd hof
  unfold maxLen at hc2
  simp only [List.length_cons] at *
  have HLV := hide hlv
  clear hlv
  have b0 : (((hd.length : Int) + 1) == 0) = false := by rw [beq_eq_false_iff_ne]; omega
  obtain ⟨rp, hrp⟩ : ∃ rp, rp = (varsL [] hd && (decide (0 < ds.length) && ds.all (exprF n))) := ⟨_, rfl⟩
  have HRP := hide hrp
  have HR2 := hide (show r = (varD d && rp) from by rw [HR.out, hrp])
  clear hrp HR
  go_enter Tryz.func145, Tryz.ntmps145
  go_wp2_with fail
  refine (ivariable_any m d (.iface t1 x1) _ HV1.out).mono ?_
  rintro e w2 ⟨⟨tt, rfl, htt⟩, rfl⟩
  have HTT := hide (show varD d = true → tt.data.toList = nameD d from fun h => htt h)
  clear htt HV1 c0
  obtain ⟨vd, hvd⟩ : ∃ vd, vd = varD d := ⟨_, rfl⟩
  rw [← hvd]
  have HVD := hide hvd
  clear hvd
  by_cases hcap : cap = 1
  · have hz : hs = [] := List.length_eq_zero_iff.1 (by have := HLV.out; omega)
    have HZ := hide hz
    have hz2 : hd.length = 0 := by omega
    rw [hz2]
    clear hz hln hc1 hz2
    subst hcap
    go_wp2_with fail
    refine (HP.out _ rp (by rw [HZ.out]; exact RowQ.none _ _) HRP).mono ?_
    rintro e w3 ⟨⟨u3, rfl, hu3⟩, hb3⟩
    have HB := hide hb3
    have HU := hide hu3
    clear hb3 hu3 HP HRP
    cases vd with
    | false =>
      have hr : r = false := by rw [HR2.out, ← HVD.out]; rfl
      subst hr
      clear HR2
      go_wp2
      go_ret2
      exact ⟨⟨_, rfl, fun h => by cases h⟩, HB.out⟩
    | true =>
      have hr : r = rp := by rw [HR2.out, ← HVD.out]; rfl
      subst hr
      clear HR2
      cases r with
      | false =>
        go_wp2
        go_ret2
        exact ⟨⟨_, rfl, fun h => by cases h⟩, HB.out⟩
      | true =>
        obtain ⟨k, hk, hev⟩ := HU.out rfl
        have HD := hide (defineAs_any tt hev)
        have HK := hide hk
        obtain ⟨t3, x3, rfl⟩ := hev.form
        clear HU hev hk
        go_wp2_with fail
        refine HD.out.mono ?_
        rintro e w4 ⟨⟨v4, rfl, hv4⟩, hb4⟩
        have HV4 := hide hv4
        have HB4 := hide (HB.out.trans (hb4.mono HB.out.size))
        clear hv4 hb4 HD
        obtain ⟨t4, x4, rfl⟩ := HV4.out.form
        go_wp2
        go_ret2
        exact ⟨⟨_, rfl, fun _ => ⟨_, by rw [HK.out, ← HTT.out HVD.out.symm]; rfl, HV4.out⟩⟩, HB4.out⟩
  · go_wp2_with fail
    refine (HP.out _ rp (RowQ.tail HRW.out HLV.out) HRP).mono ?_
    rintro e w3 ⟨⟨u3, rfl, hu3⟩, hb3⟩
    have HB := hide hb3
    have HU := hide hu3
    clear hb3 hu3 HP HRP
    cases vd with
    | false =>
      have hr : r = false := by rw [HR2.out, ← HVD.out]; rfl
      subst hr
      clear HR2
      go_wp2
      go_ret2
      exact ⟨⟨_, rfl, fun h => by cases h⟩, HB.out⟩
    | true =>
      have hr : r = rp := by rw [HR2.out, ← HVD.out]; rfl
      subst hr
      clear HR2
      cases r with
      | false =>
        go_wp2
        go_ret2
        exact ⟨⟨_, rfl, fun h => by cases h⟩, HB.out⟩
      | true =>
        obtain ⟨k, hk, hev⟩ := HU.out rfl
        have HD := hide (defineAs_any tt hev)
        have HK := hide hk
        obtain ⟨t3, x3, rfl⟩ := hev.form
        clear HU hev hk
        go_wp2_with fail
        refine HD.out.mono ?_
        rintro e w4 ⟨⟨v4, rfl, hv4⟩, hb4⟩
        have HV4 := hide hv4
        have HB4 := hide (HB.out.trans (hb4.mono HB.out.size))
        clear hv4 hb4 HD
        obtain ⟨t4, x4, rfl⟩ := HV4.out.form
        go_wp2
        go_ret2
        exact ⟨⟨_, rfl, fun _ => ⟨_, by rw [HK.out, ← HTT.out HVD.out.symm]; rfl, HV4.out⟩⟩, HB4.out⟩

set_option maxHeartbeats 1000000 in
theorem defProc_nil (a : Option Addr) (cap : Nat) (v : Value) (w : World) : Calls Tryz.prog 145 #[.slice a 0 cap, v] w (OfPost w (fun _ => False) false) := by
  go_enter Tryz.func145, Tryz.ntmps145
  go_wp2
  go_ret2
  exact ⟨⟨_, rfl, fun h => by cases h⟩, Below.refl _ _⟩
end Go.Proofs.YtlobegpjenabaaaGreatDoor
