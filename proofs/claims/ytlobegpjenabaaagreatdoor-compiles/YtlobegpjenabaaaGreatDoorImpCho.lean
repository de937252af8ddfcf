/- expr: choice. -/
import Derived.Test.YtlobegpjenabaaaGreatDoorImpDfn
namespace Go.Proofs.YtlobegpjenabaaaGreatDoor
open Go.RowKit
set_option linter.unusedSimpArgs false
set_option linter.unusedVariables false

theorem EV.drew {w : World} {P : Nat → Prop} {n : Nat} {v : Value} (h : EV w P n v) : EV w.drew P n v := EV.imp (w := w) (w' := w.drew) (P := P) (P' := P) (fun g o hg ho => ⟨ho, hg⟩) h
theorem three_of {ds : List Value} (h : ds.length = 3) : ∃ a b c, ds = [a, b, c] := by
  match ds, h with
  | [a, b, c], _ => exact ⟨a, b, c, rfl⟩
theorem twoV_of {ds : List Value} (h : ds.length = 2) : ∃ a b, ds = [a, b] := by
  match ds, h with
  | [a, b], _ => exact ⟨a, b, rfl⟩

set_option maxHeartbeats 2000000 in
theorem choice_not (n : Nat) (vs : List Value) (ds : List D) (v : Value) (w : World) (hrow : RowQ w v vs) (hds : IVs w n vs ds) (hlen : ds.length ≤ 1000) (h2 : ¬ ds.length = 2) (h3 : ¬ ds.length = 3) :
    Calls Tryz.prog 90 #[v] w (OfPost w 0 false) := by
  obtain ⟨a, cap, rfl, hc1, hc2, hat⟩ := rowQ_at hrow hds
  unfold maxLen at hc2
  have b1 : ((ds.length : Int) != 2) = true := by simp; omega
  have b2 : ((ds.length : Int) != 3) = true := by simp; omega
  clear hat hrow hds h2 h3
  go_enter Tryz.func90, Tryz.ntmps90
  go_wp2
  go_ret2
  exact ⟨⟨_, rfl, fun h => by cases h⟩, Below.refl _ _⟩

set_option maxHeartbeats 2000000 in
theorem choice_no2 (n : Nat) (hof : OfC n) (vs : List Value) (ds : List D) (v : Value) (w : World) (hrow : RowQ w v vs) (hds : IVs w n vs ds) (hl : ds.length = 2) (hall : ds.all (exprF n) = false) :
    Calls Tryz.prog 90 #[v] w (OfPost w 0 false) := by
  have HE := hide (each_go n hof vs ds v w hrow hds (by omega) false hall.symm)
  obtain ⟨a, cap, rfl, hc1, hc2, hat⟩ := rowQ_at hrow hds
  unfold maxLen at hc2
  rw [hl] at HE hc1
  rw [hl]
  clear hat hrow hds hl hall hof
  go_enter Tryz.func90, Tryz.ntmps90
  go_wp2_with fail
  refine HE.out.mono ?_
  rintro e w2 ⟨⟨u, rfl, h0, h1⟩, hb⟩
  have HB := hide hb
  clear hb HE h0 h1
  go_wp2
  go_ret2
  exact ⟨⟨_, rfl, fun h => by cases h⟩, HB.out⟩
set_option maxHeartbeats 2000000 in
theorem choice_no3 (n : Nat) (hof : OfC n) (vs : List Value) (ds : List D) (v : Value) (w : World) (hrow : RowQ w v vs) (hds : IVs w n vs ds) (hl : ds.length = 3) (hall : ds.all (exprF n) = false) :
    Calls Tryz.prog 90 #[v] w (OfPost w 0 false) := by
  have HE := hide (each_go n hof vs ds v w hrow hds (by omega) false hall.symm)
  obtain ⟨a, cap, rfl, hc1, hc2, hat⟩ := rowQ_at hrow hds
  unfold maxLen at hc2
  rw [hl] at HE hc1
  rw [hl]
  clear hat hrow hds hl hall hof
  go_enter Tryz.func90, Tryz.ntmps90
  go_wp2_with fail
  refine HE.out.mono ?_
  rintro e w2 ⟨⟨u, rfl, h0, h1⟩, hb⟩
  have HB := hide hb
  clear hb HE h0 h1
  go_wp2
  go_ret2
  exact ⟨⟨_, rfl, fun h => by cases h⟩, HB.out⟩

set_option maxRecDepth 100000 in
set_option maxHeartbeats 2000000 in
theorem choice_three (n : Nat) (hof : OfC n) (vs : List Value) (ds : List D) (v : Value) (w : World) (hrow : RowQ w v vs) (hds : IVs w n vs ds) (hl : ds.length = 3) (hall : ds.all (exprF n) = true) :
    Calls Tryz.prog 90 #[v] w (OfPost w (wtL ds + 1) true) := by
  have HE := hide (each_go n hof vs ds v w hrow hds (by omega) true hall.symm)
  obtain ⟨a, cap, rfl, hc1, hc2, hat⟩ := rowQ_at hrow hds
  unfold maxLen at hc2
  rw [hl] at HE hc1
  rw [hl]
  have HL := hide hl
  clear hat hrow hds hl hall hof
  go_enter Tryz.func90, Tryz.ntmps90
  go_wp2_with fail
  refine HE.out.mono ?_
  rintro e w2 ⟨⟨u, rfl, h0, h1⟩, hb⟩
  obtain ⟨es, k, hk, hel, hrw, he⟩ := h1 rfl
  have HB := hide hb
  obtain ⟨a2, cap2, rfl, hd1, hd2, hat2⟩ := ownsRow_slice hrw
  unfold maxLen at hd2
  rw [HL.out] at hel
  obtain ⟨e0, e1, e2, rfl⟩ := three_of hel
  obtain ⟨g, rfl, _, hg, hc⟩ := hat2 (by simp)
  have c0 := hc 0 _ rfl
  have c1 := hc 1 _ rfl
  have c2 := hc 2 _ rfl
  have hev := evs_of he
  cases hev with
  | @cons n0 m0 _ _ x0 hev =>
  cases hev with
  | @cons n1 m1 _ _ x1 hev =>
  cases hev with
  | @cons n2 m2 _ _ x2 hev =>
  cases hev
  obtain ⟨t0, y0, rfl⟩ := x0.form
  obtain ⟨t1, y1, rfl⟩ := x1.form
  obtain ⟨t2, y2, rfl⟩ := x2.form
  have HV := hide (EV.ite x0 x1 x2)
  have HK := hide hk
  clear hb HE h0 h1 he hrw hat2 hc x0 x1 x2 hk hel
  simp only [List.length_cons, List.length_nil] at *
  go_wp2
  go_region
  go_wp2
  go_ret2
  exact ⟨⟨_, rfl, fun _ => ⟨n0 + n1 + n2 + 1, by have := HK.out; omega, HV.out.drew⟩⟩, by first | exact HB.out | exact HB.out.drew⟩

set_option maxRecDepth 100000 in
set_option maxHeartbeats 2000000 in
theorem choice_two (n : Nat) (hof : OfC n) (vs : List Value) (ds : List D) (v : Value) (w : World) (hrow : RowQ w v vs) (hds : IVs w n vs ds) (hl : ds.length = 2) (hall : ds.all (exprF n) = true) :
    Calls Tryz.prog 90 #[v] w (OfPost w (wtL ds + 2) true) := by
  have HE := hide (each_go n hof vs ds v w hrow hds (by omega) true hall.symm)
  obtain ⟨a, cap, rfl, hc1, hc2, hat⟩ := rowQ_at hrow hds
  unfold maxLen at hc2
  rw [hl] at HE hc1
  rw [hl]
  have HL := hide hl
  obtain ⟨i0, hi, hz0, hz1, hz2⟩ := info_parts infoE
  have HI := hide (And.intro hi (And.intro hz0 (And.intro hz1 hz2)))
  clear hat hrow hds hl hall hof hi hz0 hz1 hz2
  go_enter Tryz.func90, Tryz.ntmps90
  go_wp2_with fail
  refine HE.out.mono ?_
  rintro e w2 ⟨⟨u, rfl, h0, h1⟩, hb⟩
  obtain ⟨es, k, hk, hel, hrw, he⟩ := h1 rfl
  have HB := hide hb
  have hbs := hb.size
  obtain ⟨a2, cap2, rfl, hd1, hd2, hat2⟩ := ownsRow_slice hrw
  unfold maxLen at hd2
  rw [HL.out] at hel
  obtain ⟨e0, e1, rfl⟩ := twoV_of hel
  obtain ⟨g, rfl, _, hg, hc⟩ := hat2 (by simp)
  have HRW := hide hrw
  cases he with
  | @cons n0 m0 _ _ x0 hev =>
  cases hev with
  | @cons n1 m1 _ _ x1 hev =>
  cases hev
  obtain ⟨t0, y0, rfl⟩ := x0.form
  obtain ⟨t1, y1, rfl⟩ := x1.form
  have HX0 := hide x0
  have HX1 := hide x1
  have HK := hide hk
  clear hb HE h0 h1 hrw hat2 hc x0 x1 hk hel
  simp only [List.length_cons, List.length_nil] at *
  go_wp2_with (at_builtin; refine wpList_append_lies _ rfl (.tmp 24) (.tmp 29) 79 rfl w.heap.size 83 i0 .nilIface 1 16 Tryz.underlying79 HI.out.1 HI.out.2.1 HI.out.2.2.1 HI.out.2.2.2 rfl (by decide) _ 2 [.iface t0 y0, .iface t1 y1] rfl (HRW.out.alloc _) ⟨w2.heap.size, 0, none⟩ 1 1 [.iface 133 (.agg #[.iface 259 (.agg #[])])] rfl rfl (cell_one_new _ _ _) (by intro u hu; simp at hu; subst hu; rfl) (by decide) (by unfold maxLen; omega) (by omega) (by simp; omega) (w2.heap.size + 1) (by simp) ?_)
  intro g4 cap4 w4 hown4 hgrow hat4 hlt4
  have hu4 := items_upd hgrow
  obtain ⟨a5, cap5, he5, hd5, hd6, hat5⟩ := ownsRow_slice hown4
  obtain ⟨g5, he6, _, hg5, hc5⟩ := hat5 (by simp)
  cases he5
  cases he6
  unfold maxLen at hd6
  have c0 := hc5 0 _ rfl
  have c1 := hc5 1 _ rfl
  have c2 := hc5 2 _ rfl
  have HV := hide (EV.ite (P := fun g => w.heap.size ≤ g) (HX0.out.imp fun j o hj ho => ⟨hu4.at ho hj.2, hj.1⟩) (HX1.out.imp fun j o hj ho => ⟨hu4.at ho hj.2, hj.1⟩) (EV.const (w := w4) 259 (.agg #[])))
  have HB4 := hide (HB.out.trans (hu4.below HB.out.size (by intro j hj; exact (ownsRow_ge HRW.out hj).1)))
  clear hown4 hgrow hat5 hc5 HX0 HX1 HRW hu4 hat4
  go_wp2
  go_region
  go_wp2
  go_ret2
  exact ⟨⟨_, rfl, fun _ => ⟨n0 + n1 + 1 + 1, by have := HK.out; omega, HV.out.drew⟩⟩, by first | exact HB4.out | exact HB4.out.drew⟩

theorem choice_any (n : Nat) (hof : OfC n) (vs : List Value) (ds : List D) (v : Value) (w : World) (hrow : RowQ w v vs) (hds : IVs w n vs ds) (hlen : ds.length ≤ 1000) (r : Bool) (HR : Hid (r = ((decide (ds.length = 2) || decide (ds.length = 3)) && ds.all (exprF n)))) :
    Calls Tryz.prog 90 #[v] w (OfPost w (wtL ds + 2) r) := by
  by_cases h2 : ds.length = 2
  · cases hall : ds.all (exprF n) with
    | false =>
      have hr : r = false := by rw [HR.out, hall, Bool.and_false]
      subst hr
      exact (choice_no2 n hof vs ds v w hrow hds h2 hall).mono fun e w' h => h.mono (Nat.zero_le _)
    | true =>
      have hr : r = true := by rw [HR.out, hall]; simp [h2]
      subst hr
      exact choice_two n hof vs ds v w hrow hds h2 hall
  · by_cases h3 : ds.length = 3
    · cases hall : ds.all (exprF n) with
      | false =>
        have hr : r = false := by rw [HR.out, hall, Bool.and_false]
        subst hr
        exact (choice_no3 n hof vs ds v w hrow hds h3 hall).mono fun e w' h => h.mono (Nat.zero_le _)
      | true =>
        have hr : r = true := by rw [HR.out, hall]; simp [h3]
        subst hr
        exact (choice_three n hof vs ds v w hrow hds h3 hall).mono fun e w' h => h.mono (by omega)
    · have hr : r = false := by rw [HR.out]; simp [h2, h3]
      subst hr
      exact (choice_not n vs ds v w hrow hds hlen h2 h3).mono fun e w' h => h.mono (Nat.zero_le _)
end Go.Proofs.YtlobegpjenabaaaGreatDoor
