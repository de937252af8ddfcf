/- expr: define. -/
import Derived.Test.YtlobegpjenabaaaGreatDoorL09
import Derived.Shelf.Spec.SlicesInsertGrow
namespace Go.Proofs.YtlobegpjenabaaaGreatDoor
open Go.RowKit
set_option linter.unusedSimpArgs false
set_option linter.unusedVariables false

/-- defineProcedure, of any head. -/
theorem defProc_any (n m : Nat) (hof : OfC n) (hs vs : List Value) (hd ds : List D) (u v : Value) (w : World) (hrn : RowQ w u hs) (hhd : IVs w m hs hd) (hln : hd.length ≤ 1000) (hrow : RowQ w v vs) (hds : IVs w n vs ds) (hlen : ds.length ≤ 1000) (r : Bool)
    (HR : Hid (r = (decide (0 < hd.length) && (varD (hd.getD 0 (num 0)) && (varsL [] hd.tail && (decide (0 < ds.length) && ds.all (exprF n))))))) :
    Calls Tryz.prog 145 #[u, v] w (OfPost w (fun e => dfpS (exprS n) hd ds = some e) r) := by
  match hs, hd, hhd with
  | [], [], _ =>
    obtain ⟨a, cap, rfl, _⟩ := hrn
    have hr : r = false := by rw [HR.out]; rfl
    subst hr
    exact (defProc_nil a cap v w).mono fun e w' h => h.mono (fun _ hk => hk.elim)
  | x :: hs, d :: hd, hhd =>
    have hr : r = (varD d && (varsL [] hd && (decide (0 < ds.length) && ds.all (exprF n)))) := by rw [HR.out]; simp
    by_cases hv : varD d = true
    · exact (defProc_go n m hof x hs vs d hd ds u v w hrn hhd hln hrow hds hlen r hr).mono fun e w' h => h.mono (fun k hk => by rw [dfpS, if_pos hv]; exact hk)
    · have hf : r = false := by rw [hr]; simp [hv]
      subst hf
      refine (defProc_go n m hof x hs vs d hd ds u v w hrn hhd hln hrow hds hlen false hr).mono fun e w' h => ?_
      obtain ⟨⟨u, he, hu⟩, hb⟩ := h
      exact ⟨⟨u, he, fun h => by cases h⟩, hb⟩

set_option maxRecDepth 100000 in
set_option maxHeartbeats 2000000 in
theorem define_list (n : Nat) (hof : OfC (n + 1)) (x : Value) (vs : List Value) (d : D) (ds : List D) (v : Value) (w : World) (hrow : RowQ w v (x :: vs)) (hds : IVs w (n + 1) (x :: vs) (d :: ds)) (hlen : (d :: ds).length ≤ 1000) (hil : isList d = true) (r : Bool)
    (HR : Hid (r = (decide (0 < (itemsD d).length) && (varD ((itemsD d).getD 0 (num 0)) && (varsL [] (itemsD d).tail && (decide (0 < ds.length) && ds.all (exprF (n + 1)))))))) :
    Calls Tryz.prog 91 #[v] w (OfPost w (fun e => dfpS (exprS (n + 1)) (itemsD d) ds = some e) r) := by
  have hlv := hds.2.length
  have hid := hds.1.len
  have HDS := hide hds
  have HRW := hide hrow
  obtain ⟨a, cap, rfl, hc1, hc2, hat⟩ := rowQ_at hrow hds
  obtain ⟨g, off, rfl, hg, t1, x1, hiv1, c0⟩ := hat 0 (by simp)
  rw [Nat.add_zero] at c0
  have HV1 := hide (show IV w (n + 1) (.iface t1 x1) d from hiv1)
  clear hat hrow hds hiv1
  unfold maxLen at hc2
  simp only [List.length_cons] at *
  have HOF := hide hof
  have HLV := hide hlv
  clear hof
  have b0 : (((ds.length : Int) + 1) == 0) = false := by rw [beq_eq_false_iff_ne]; omega
  have HIL := hide hil
  clear hil
  go_enter Tryz.func91, Tryz.ntmps91
  go_wp2_with fail
  refine (iitems_any n d (.iface t1 x1) _ HV1.out).mono ?_
  rintro e w2 ⟨u, us, rfl, hru, hus, hb⟩
  rw [HIL.out]
  have HRU := hide hru
  have HUS := hide hus
  have HB := hide hb
  clear hru hus hb
  have HP := hide (fun (tl : Value) (htl : RowQ w2 tl vs) => defProc_any (n + 1) n HOF.out us vs (itemsD d) ds u tl w2 (RowI.q HRU.out) HUS.out hid htl (IVs.keep (Keep.of_below HB.out) _ _ _ HDS.out.2) (by omega) r HR)
  have HQ := hide (HRW.out.below HB.out)
  clear HRU HUS hid HDS HV1 HRW HR hlv c0 HIL
  by_cases hcap : cap = 1
  · have hz : vs = [] := List.length_eq_zero_iff.1 (by have := HLV.out; omega)
    have hz2 : ds.length = 0 := by omega
    have HZ := hide hz
    rw [hz2]
    clear hz hlen hc1
    subst hcap
    go_wp2_with fail
    refine (HP.out _ (by rw [HZ.out]; exact RowQ.none _ _)).mono ?_
    intro e w3 h3
    have HPost := hide (h3.since HB.out)
    obtain ⟨⟨u3, rfl, _⟩, _⟩ := h3
    go_wp2
    go_ret2
    exact HPost.out
  · go_wp2_with fail
    refine (HP.out _ (RowQ.tail HQ.out HLV.out)).mono ?_
    intro e w3 h3
    have HPost := hide (h3.since HB.out)
    obtain ⟨⟨u3, rfl, _⟩, _⟩ := h3
    go_wp2
    go_ret2
    exact HPost.out

set_option maxRecDepth 100000 in
set_option maxHeartbeats 2000000 in
theorem define_atom (n : Nat) (hof : OfC (n + 1)) (x : Value) (vs : List Value) (d : D) (ds : List D) (v : Value) (w : World) (hrow : RowQ w v (x :: vs)) (hds : IVs w (n + 1) (x :: vs) (d :: ds)) (hlen : (d :: ds).length ≤ 1000) (hil : isList d = false) (r : Bool)
    (HR : Hid (r = (decide ((d :: ds).length = 2) && varD ((d :: ds).getD 0 (lst [])) && ((d :: ds).drop 1).all (exprF (n + 1))))) :
    Calls Tryz.prog 91 #[v] w (OfPost w (fun e => nvS (exprS (n + 1)) asS (d :: ds) = some e) r) := by
  have HN := hide (fun (w2 : World) (hb : Below w.heap.size w w2) => nv_go (n + 1) hof (x :: vs) (d :: ds) v w2 (hrow.below hb) (IVs.keep (Keep.of_below hb) _ _ _ hds) hlen r HR)
  obtain ⟨a, cap, rfl, hc1, hc2, hat⟩ := rowQ_at hrow hds
  obtain ⟨g, off, rfl, hg, t1, x1, hiv1, c0⟩ := hat 0 (by simp)
  rw [Nat.add_zero] at c0
  have HV1 := hide (show IV w (n + 1) (.iface t1 x1) d from hiv1)
  clear hat hrow hds hiv1 HR hof
  unfold maxLen at hc2
  generalize hW : nvS (exprS (n + 1)) asS (d :: ds) = W at *
  have HNW := hide hW
  clear hW
  simp only [List.length_cons] at *
  have b0 : (((ds.length : Int) + 1) == 0) = false := by rw [beq_eq_false_iff_ne]; omega
  have HIL := hide hil
  clear hil
  go_enter Tryz.func91, Tryz.ntmps91
  go_wp2_with fail
  refine (iitems_any n d (.iface t1 x1) _ HV1.out).mono ?_
  rintro e w2 ⟨u, us, rfl, hru, hus, hb⟩
  rw [HIL.out]
  have HB := hide hb
  clear hru hus hb HV1 c0 HIL
  go_wp2_with fail
  refine (HN.out _ HB.out).mono ?_
  rintro e w3 ⟨⟨s, u3, rfl, hu3⟩, hb3⟩
  have hs2 := HB.out.size
  have HB3 := hide (HB.out.trans (hb3.mono hs2))
  have HU := hide hu3
  clear hb3 hu3 HN
  cases r with
  | false =>
    go_wp2
    go_ret2
    exact ⟨⟨_, rfl, fun h => by cases h⟩, HB3.out⟩
  | true =>
    obtain ⟨k, hk, hev⟩ := HU.out rfl
    have HK := hide hk
    have HD := hide (defineAs_any s (hev.imp (P' := fun g => w.heap.size ≤ g) (Keep.refl _) fun g o hg ho => ⟨ho, Nat.le_trans hs2 hg⟩))
    obtain ⟨t3, x3, rfl⟩ := hev.form
    clear HU hev hk
    go_wp2_with fail
    refine HD.out.mono ?_
    rintro e w4 ⟨⟨v4, rfl, hv4⟩, hb4⟩
    have HV4 := hide hv4
    have HB4 := hide (HB3.out.trans (hb4.mono HB3.out.size))
    clear hv4 hb4 HD
    obtain ⟨t4, x4, rfl⟩ := HV4.out.form
    go_wp2
    go_ret2
    exact ⟨⟨_, rfl, fun _ => ⟨_, by rw [← HNW.out]; exact HK.out asS, HV4.out⟩⟩, HB4.out⟩

/-- What define asks. -/
def defB (f : D → Bool) (ds : List D) : Bool :=
  if 2 ≤ ds.length ∧ 0 < (itemsD (ds.getD 0 (num 0))).length
  then varD ((itemsD (ds.getD 0 (num 0))).getD 0 (num 0)) && varsL [] (itemsD (ds.getD 0 (num 0))).tail && (ds.drop 1).all f
  else decide (ds.length = 2) && varD (ds.getD 0 (lst [])) && (ds.drop 1).all f

theorem define_any (n : Nat) (hof : OfC n) (vs : List Value) (ds : List D) (v : Value) (w : World) (hrow : RowQ w v vs) (hds : IVs w n vs ds) (hlen : ds.length ≤ 1000) (r : Bool) (HR : Hid (r = defB (exprF n) ds)) :
    Calls Tryz.prog 91 #[v] w (OfPost w (fun e => defS (exprS n) ds = some e) r) := by
  match vs, ds, hds with
  | [], [], _ =>
    obtain ⟨a, cap, rfl, _⟩ := hrow
    have hr : r = false := by rw [HR.out]; rfl
    subst hr
    exact (define_nil a cap w).mono fun e w' h => h.mono (fun _ hk => hk.elim)
  | x :: vs, d :: ds, hds =>
    cases n with
    | zero => exact hds.1.elim
    | succ n =>
      by_cases hi : isList d = true
      · refine (define_list n hof x vs d ds v w hrow hds hlen hi r ?_).mono fun e w' h => h.mono (fun k hk => by rw [defS, if_pos hi]; exact hk)
        show _ = _
        rw [HR.out]
        unfold defB
        simp only [List.getD_cons_zero, List.drop_succ_cons, List.drop_zero, List.length_cons]
        by_cases h0 : 0 < (itemsD d).length
        · by_cases h3 : 0 < ds.length
          · rw [if_pos ⟨by omega, h0⟩]; simp [h0, h3, Bool.and_assoc]
          · rw [if_neg (by omega)]
            have hz : ds.length = 0 := by omega
            simp [hz]
        · rw [if_neg (by omega)]
          have hd : varD d = false := by cases d <;> first | rfl | cases hi
          have hz : (itemsD d).length = 0 := by omega
          simp [hd, hz]
      · have hi : isList d = false := by simpa using hi
        refine (define_atom n hof x vs d ds v w hrow hds hlen hi r ?_).mono fun e w' h => h.mono (fun k hk => by rw [defS, if_neg (by rw [hi]; decide)]; exact hk)
        show _ = _
        rw [HR.out]
        unfold defB
        have hz : (itemsD d).length = 0 := by cases d <;> first | rfl | cases hi
        rw [if_neg (by simp only [List.getD_cons_zero]; omega)]
end Go.Proofs.YtlobegpjenabaaaGreatDoor

/- expr: choice. -/
namespace Go.Proofs.YtlobegpjenabaaaGreatDoor
open Go.RowKit
set_option linter.unusedSimpArgs false
set_option linter.unusedVariables false

theorem EV.drew {w : World} {P : Nat → Prop} {n : E} {v : Value} (h : EV w P n v) : EV w.drew P n v := EV.imp (w := w) (w' := w.drew) (P := P) (P' := P) (Keep.refl w) (fun g o hg ho => ⟨ho, hg⟩) h
theorem three_of {ds : List Value} (h : ds.length = 3) : ∃ a b c, ds = [a, b, c] := by
  match ds, h with
  | [a, b, c], _ => exact ⟨a, b, c, rfl⟩
theorem twoV_of {ds : List Value} (h : ds.length = 2) : ∃ a b, ds = [a, b] := by
  match ds, h with
  | [a, b], _ => exact ⟨a, b, rfl⟩

set_option maxHeartbeats 2000000 in
theorem choice_not (n : Nat) (vs : List Value) (ds : List D) (v : Value) (w : World) (hrow : RowQ w v vs) (hds : IVs w n vs ds) (hlen : ds.length ≤ 1000) (h2 : ¬ ds.length = 2) (h3 : ¬ ds.length = 3) :
    Calls Tryz.prog 90 #[v] w (OfPost w (fun _ => False) false) := by
  obtain ⟨a, cap, rfl, hc1, hc2, hat⟩ := rowQ_at hrow hds
  unfold maxLen at hc2
  have b1 : ((ds.length : Int) != 2) = true := by simp; omega
  have b2 : ((ds.length : Int) != 3) = true := by simp; omega
  clear hat hrow hds h2 h3
  go_enter Tryz.func90, Tryz.ntmps90
  go_wp2
  go_ret2
  exact ⟨⟨_, rfl, fun h => by cases h⟩, Below.refl _ _⟩

set_option maxHeartbeats 2000000 in
theorem choice_no2 (n : Nat) (hof : OfC n) (vs : List Value) (ds : List D) (v : Value) (w : World) (hrow : RowQ w v vs) (hds : IVs w n vs ds) (hl : ds.length = 2) (hall : ds.all (exprF n) = false) :
    Calls Tryz.prog 90 #[v] w (OfPost w (fun _ => False) false) := by
  have HE := hide (each_go n hof vs ds v w hrow hds (by omega) false hall.symm)
  obtain ⟨a, cap, rfl, hc1, hc2, hat⟩ := rowQ_at hrow hds
  unfold maxLen at hc2
  rw [hl] at HE hc1
  rw [hl]
  clear hat hrow hds hl hall hof
  go_enter Tryz.func90, Tryz.ntmps90
  go_wp2_with fail
  refine HE.out.mono ?_
  rintro e w2 ⟨⟨u, rfl, h0, h1⟩, hb⟩
  have HB := hide hb
  clear hb HE h0 h1
  go_wp2
  go_ret2
  exact ⟨⟨_, rfl, fun h => by cases h⟩, HB.out⟩
set_option maxHeartbeats 2000000 in
theorem choice_no3 (n : Nat) (hof : OfC n) (vs : List Value) (ds : List D) (v : Value) (w : World) (hrow : RowQ w v vs) (hds : IVs w n vs ds) (hl : ds.length = 3) (hall : ds.all (exprF n) = false) :
    Calls Tryz.prog 90 #[v] w (OfPost w (fun _ => False) false) := by
  have HE := hide (each_go n hof vs ds v w hrow hds (by omega) false hall.symm)
  obtain ⟨a, cap, rfl, hc1, hc2, hat⟩ := rowQ_at hrow hds
  unfold maxLen at hc2
  rw [hl] at HE hc1
  rw [hl]
  clear hat hrow hds hl hall hof
  go_enter Tryz.func90, Tryz.ntmps90
  go_wp2_with fail
  refine HE.out.mono ?_
  rintro e w2 ⟨⟨u, rfl, h0, h1⟩, hb⟩
  have HB := hide hb
  clear hb HE h0 h1
  go_wp2
  go_ret2
  exact ⟨⟨_, rfl, fun h => by cases h⟩, HB.out⟩

set_option maxRecDepth 100000 in
set_option maxHeartbeats 2000000 in
theorem choice_three (n : Nat) (hof : OfC n) (vs : List Value) (ds : List D) (v : Value) (w : World) (hrow : RowQ w v vs) (hds : IVs w n vs ds) (hl : ds.length = 3) (hall : ds.all (exprF n) = true) :
    Calls Tryz.prog 90 #[v] w (OfPost w (fun e => (eachS (exprS n) ds).bind ifS = some e) true) := by
  have HE := hide (each_go n hof vs ds v w hrow hds (by omega) true hall.symm)
  obtain ⟨a, cap, rfl, hc1, hc2, hat⟩ := rowQ_at hrow hds
  unfold maxLen at hc2
  rw [hl] at HE hc1
  rw [hl]
  have HL := hide hl
  clear hat hrow hds hl hall hof
  go_enter Tryz.func90, Tryz.ntmps90
  go_wp2_with fail
  refine HE.out.mono ?_
  rintro e w2 ⟨⟨u, rfl, h0, h1⟩, hb⟩
  obtain ⟨es, k, hk, hel, hrw, he⟩ := h1 rfl
  have HB := hide hb
  obtain ⟨a2, cap2, rfl, hd1, hd2, hat2⟩ := ownsRow_slice hrw
  unfold maxLen at hd2
  rw [HL.out] at hel
  obtain ⟨e0, e1, e2, rfl⟩ := three_of hel
  obtain ⟨g, rfl, _, hg, hc⟩ := hat2 (by simp)
  have c0 := hc 0 _ rfl
  have c1 := hc 1 _ rfl
  have c2 := hc 2 _ rfl
  have hev := evs_of he
  cases hev with
  | @cons n0 m0 _ _ x0 hev =>
  cases hev with
  | @cons n1 m1 _ _ x1 hev =>
  cases hev with
  | @cons n2 m2 _ _ x2 hev =>
  cases hev
  obtain ⟨t0, y0, rfl⟩ := x0.form
  obtain ⟨t1, y1, rfl⟩ := x1.form
  obtain ⟨t2, y2, rfl⟩ := x2.form
  have HV := hide (EV.ite x0 x1 x2)
  have HK := hide hk
  clear hb HE h0 h1 he hrw hat2 hc x0 x1 x2 hk hel
  simp only [List.length_cons, List.length_nil] at *
  go_wp2
  go_region
  go_wp2
  go_ret2
  exact ⟨⟨_, rfl, fun _ => ⟨.ite n0 n1 n2, by rw [HK.out]; rfl, HV.out.drew⟩⟩, by first | exact HB.out | exact HB.out.drew⟩

set_option maxRecDepth 100000 in
set_option maxHeartbeats 2000000 in
theorem choice_two (n : Nat) (hof : OfC n) (vs : List Value) (ds : List D) (v : Value) (w : World) (hrow : RowQ w v vs) (hds : IVs w n vs ds) (hl : ds.length = 2) (hall : ds.all (exprF n) = true) :
    Calls Tryz.prog 90 #[v] w (OfPost w (fun e => (eachS (exprS n) ds).bind ifS = some e) true) := by
  have HE := hide (each_go n hof vs ds v w hrow hds (by omega) true hall.symm)
  obtain ⟨a, cap, rfl, hc1, hc2, hat⟩ := rowQ_at hrow hds
  unfold maxLen at hc2
  rw [hl] at HE hc1
  rw [hl]
  have HL := hide hl
  obtain ⟨i0, hi, hz0, hz1, hz2⟩ := info_parts infoE
  have HI := hide (And.intro hi (And.intro hz0 (And.intro hz1 hz2)))
  clear hat hrow hds hl hall hof hi hz0 hz1 hz2
  go_enter Tryz.func90, Tryz.ntmps90
  go_wp2_with fail
  refine HE.out.mono ?_
  rintro e w2 ⟨⟨u, rfl, h0, h1⟩, hb⟩
  obtain ⟨es, k, hk, hel, hrw, he⟩ := h1 rfl
  have HB := hide hb
  have hbs := hb.size
  obtain ⟨a2, cap2, rfl, hd1, hd2, hat2⟩ := ownsRow_slice hrw
  unfold maxLen at hd2
  rw [HL.out] at hel
  obtain ⟨e0, e1, rfl⟩ := twoV_of hel
  obtain ⟨g, rfl, _, hg, hc⟩ := hat2 (by simp)
  have HRW := hide hrw
  cases he with
  | @cons n0 m0 _ _ x0 hev =>
  cases hev with
  | @cons n1 m1 _ _ x1 hev =>
  cases hev
  obtain ⟨t0, y0, rfl⟩ := x0.form
  obtain ⟨t1, y1, rfl⟩ := x1.form
  have HX0 := hide x0
  have HX1 := hide x1
  have HK := hide hk
  clear hb HE h0 h1 hrw hat2 hc x0 x1 hk hel
  simp only [List.length_cons, List.length_nil] at *
  go_wp2_with (at_builtin; refine wpList_append_lies _ rfl (.tmp 24) (.tmp 29) 79 rfl w.heap.size 83 i0 .nilIface 1 16 Tryz.underlying79 HI.out.1 HI.out.2.1 HI.out.2.2.1 HI.out.2.2.2 rfl (by decide) _ 2 [.iface t0 y0, .iface t1 y1] rfl (HRW.out.alloc _) ⟨w2.heap.size, 0, none⟩ 1 1 [.iface 133 (.agg #[.iface 259 (.agg #[])])] rfl rfl (cell_one_new _ _ _) (by intro u hu; simp at hu; subst hu; rfl) (by decide) (by unfold maxLen; omega) (by omega) (by simp; omega) (w2.heap.size + 1) (by simp) ?_)
  intro g4 cap4 w4 hown4 hgrow hat4 hlt4
  have hu4 := items_upd hgrow
  obtain ⟨a5, cap5, he5, hd5, hd6, hat5⟩ := ownsRow_slice hown4
  obtain ⟨g5, he6, _, hg5, hc5⟩ := hat5 (by simp)
  cases he5
  cases he6
  unfold maxLen at hd6
  have c0 := hc5 0 _ rfl
  have c1 := hc5 1 _ rfl
  have c2 := hc5 2 _ rfl
  have kp4 : Keep 205 w2 w4 := Keep.of_upd hu4 fun k c hk h => by
    rcases HRW.out.2 with ⟨hv, _⟩ | ⟨g, cap, cu, hv, hg, hh, r⟩
    · rw [hv] at hk; cases hk
    · rw [hv] at hk; cases hk
      rw [hh] at h; cases h
  have HV := hide (EV.ite (P := fun g => w.heap.size ≤ g) (HX0.out.imp kp4 fun j o hj ho => ⟨hu4.at ho hj.2, hj.1⟩) (HX1.out.imp kp4 fun j o hj ho => ⟨hu4.at ho hj.2, hj.1⟩) (EV.nothing (w := w4)))
  clear kp4
  have HB4 := hide (HB.out.trans (hu4.below HB.out.size (by intro j hj; exact (ownsRow_ge HRW.out hj).1)))
  clear hown4 hgrow hat5 hc5 HX0 HX1 HRW hu4 hat4
  go_wp2
  go_region
  go_wp2
  go_ret2
  exact ⟨⟨_, rfl, fun _ => ⟨.ite n0 n1 .nothing, by rw [HK.out]; rfl, HV.out.drew⟩⟩, by first | exact HB4.out | exact HB4.out.drew⟩

theorem choice_any (n : Nat) (hof : OfC n) (vs : List Value) (ds : List D) (v : Value) (w : World) (hrow : RowQ w v vs) (hds : IVs w n vs ds) (hlen : ds.length ≤ 1000) (r : Bool) (HR : Hid (r = ((decide (ds.length = 2) || decide (ds.length = 3)) && ds.all (exprF n)))) :
    Calls Tryz.prog 90 #[v] w (OfPost w (fun e => (eachS (exprS n) ds).bind ifS = some e) r) := by
  by_cases h2 : ds.length = 2
  · cases hall : ds.all (exprF n) with
    | false =>
      have hr : r = false := by rw [HR.out, hall, Bool.and_false]
      subst hr
      exact (choice_no2 n hof vs ds v w hrow hds h2 hall).mono fun e w' h => h.mono (fun _ hk => hk.elim)
    | true =>
      have hr : r = true := by rw [HR.out, hall]; simp [h2]
      subst hr
      exact choice_two n hof vs ds v w hrow hds h2 hall
  · by_cases h3 : ds.length = 3
    · cases hall : ds.all (exprF n) with
      | false =>
        have hr : r = false := by rw [HR.out, hall, Bool.and_false]
        subst hr
        exact (choice_no3 n hof vs ds v w hrow hds h3 hall).mono fun e w' h => h.mono (fun _ hk => hk.elim)
      | true =>
        have hr : r = true := by rw [HR.out, hall]; simp [h3]
        subst hr
        exact choice_three n hof vs ds v w hrow hds h3 hall
    · have hr : r = false := by rw [HR.out]; simp [h2, h3]
      subst hr
      exact (choice_not n vs ds v w hrow hds hlen h2 h3).mono fun e w' h => h.mono (fun _ hk => hk.elim)
end Go.Proofs.YtlobegpjenabaaaGreatDoor

/- slices.Insert at the head of a row of expressions, of one expression. -/
namespace Go.Proofs.YtlobegpjenabaaaGreatDoor
open Go.RowKit
set_option linter.unusedSimpArgs false
set_option linter.unusedVariables false

theorem spl_aux (A Q : List Value) (v : Value) (k : Nat) : (A ++ v :: Q).take (A.length + 1) = A ++ [v] ∧ (A ++ v :: Q).drop (A.length + 1 + k) = Q.drop k := by
  constructor
  · rw [List.take_append, List.take_of_length_le (by omega), show A.length + 1 - A.length = 1 by omega]; rfl
  · rw [List.drop_append, List.drop_of_length_le (by omega), show A.length + 1 + k - A.length = k + 1 by omega]; rfl
theorem setCells_block (g : Nat) : ∀ (vs : List Value) (o : Nat) (w : World) (c : Array Value) (T : TypeId) (fz : Nat × Nat), w.heap[g]? = some (Obj.cells c T fz) → o + vs.length ≤ c.size →
    ∃ c', (w.setCells g o vs).heap[g]? = some (Obj.cells c' T fz) ∧ c'.size = c.size ∧ c'.toList = c.toList.take o ++ (vs ++ c.toList.drop (o + vs.length))
  | [], o, w, c, T, fz, h, hl => ⟨c, h, rfl, by simp⟩
  | v :: r, o, w, c, T, fz, h, hl => by
    have h1 := heap_setCell_same (o := o) (v := v) h
    obtain ⟨c', h2, h3, h4⟩ := setCells_block g r (o + 1) (w.setCell ⟨g, o, none⟩ v) _ T fz h1 (by simp at hl ⊢; omega)
    refine ⟨c', h2, by simpa using h3, ?_⟩
    have hs : (c.setIfInBounds o v).toList = c.toList.take o ++ v :: c.toList.drop (o + 1) := by
      rw [Array.toList_setIfInBounds, List.set_eq_take_append_cons_drop, if_pos (by simp at hl ⊢; omega)]
    have hlo : (c.toList.take o).length = o := by rw [List.length_take]; simp at hl ⊢; omega
    obtain ⟨q1, q2⟩ := spl_aux (c.toList.take o) (c.toList.drop (o + 1)) v r.length
    rw [hlo] at q1 q2
    rw [h4, hs, q1, q2, List.drop_drop, List.length_cons, show o + 1 + r.length = o + (r.length + 1) by omega]
    simp only [List.append_assoc, List.cons_append, List.nil_append]

theorem setCells_other (g : Nat) {i : Nat} (hne : i ≠ g) : ∀ (vs : List Value) (o : Nat) (w : World), (w.setCells g o vs).heap[i]? = w.heap[i]?
  | [], _, _ => rfl
  | v :: r, o, w => by rw [World.setCells, setCells_other g hne r, Below.heap_setCell _ _ _ _ hne]
theorem Upd.setCells {S : Nat → Prop} {w : World} (g : Nat) (hS : S g) : ∀ (vs : List Value) (o : Nat) (w1 : World), Upd S w w1 → Upd S w (w1.setCells g o vs)
  | [], _, _, h => h
  | v :: r, o, w1, h => Upd.setCells g hS r (o + 1) _ (h.setCell ⟨g, o, none⟩ v (fun _ => hS))

/-- What it comes to. -/
def InsPost (w : World) (B : Nat) (u : Value) (es : List Value) (p : Value) (e : Ending) (w' : World) : Prop :=
  ∃ g cap, e = .returned (.slice (some ⟨g, 0, none⟩) (es.length + 1) cap) ∧ w'.ownsRow B 83 1 (.slice (some ⟨g, 0, none⟩) (es.length + 1) cap) (es.length + 1) (p :: es) ∧ Upd (fun k => u.ownBlock = some k) w w' ∧ (u.ownBlock = some g ∨ w.heap.size ≤ g)

theorem cellAt_zero {w : World} {vb : Nat} {p : Value} {T : TypeId} (hv : w.heap[vb]? = some (Obj.cells #[p] T (0, 0))) : ∀ (j : Nat) u, [p][j]? = some u → w.cell? ((⟨vb, 0, none⟩ : Addr).add j) = some u := fun j u h => World.news_of_block hv j u h

set_option maxHeartbeats 2000000 in
theorem insert_nil (w : World) (B : Nat) (a : Option Addr) (cap vb : Nat) (t : TypeId) (x : Value) (T : TypeId) (hr : w.ownsRow B 83 1 (.slice a 0 cap) 0 []) (hB : B ≤ w.heap.size) (hv : w.heap[vb]? = some (Obj.cells #[.iface t x] T (0, 0))) (hcap : cap ≤ maxLen) :
    Calls Tryz.prog 150 #[.slice a 0 cap, .int .i64 0, .slice (some ⟨vb, 0, none⟩) 1 1] w (InsPost w B (.slice a 0 cap) [] (.iface t x)) := by
  obtain ⟨i0, hi, hz0, hz1, hz2⟩ := info_parts infoE
  have HI := hide (And.intro hi (And.intro hz0 (And.intro hz1 hz2)))
  have HV := hide hv
  have HR := hide hr
  unfold maxLen at hcap
  clear hi hz0 hz1 hz2 hv hr
  go_enter Tryz.func150, Tryz.ntmps150
  go_wp2_with (at_builtin; refine wpList_append_lies _ rfl (.tmp 23) (.tmp 24) 79 rfl B 83 i0 .nilIface 1 16 Tryz.underlying79 HI.out.1 HI.out.2.1 HI.out.2.2.1 HI.out.2.2.2 rfl (by decide) _ 0 [] rfl HR.out ⟨vb, 0, none⟩ 1 1 [.iface t x] rfl rfl (cellAt_zero HV.out) (by intro u hu; simp at hu; subst hu; rfl) (by decide) (by decide) (by omega) hB w.heap.size rfl ?_)
  all_goals
    intro g4 cap4 w4 hown4 hgrow hat4 hlt4
    have HU := hide (Upd.grown (Upd.refl (fun k => (Value.slice a 0 cap).ownBlock = some k) w) hgrow (fun k hk _ => hk))
    have HO := hide hown4
    have HA := hide hat4
    clear hown4 hgrow hat4
    go_wp2
    go_ret
    exact ⟨g4, cap4, rfl, HO.out, HU.out, HA.out.imp id (fun h => Nat.le_of_eq h.symm)⟩

set_option maxRecDepth 100000 in
set_option maxHeartbeats 4000000 in
theorem insert_room (w : World) (B g cap vb : Nat) (es : List Value) (cur : Array Value) (t : TypeId) (x : Value) (T : TypeId) (hn : 0 < es.length) (hg : w.heap[g]? = some (Obj.cells cur 83 (0, 0))) (hB : B ≤ g) (hroom : es.length + 1 ≤ cap) (hcap : cap ≤ maxLen) (hcs : cur.size = cap) (hes : cur.toList.take es.length = es)
    (hv : w.heap[vb]? = some (Obj.cells #[.iface t x] T (0, 0))) (hne : vb ≠ g) (h1 : ∀ v ∈ es, v.oneCell' = true) :
    Calls Tryz.prog 150 #[.slice (some ⟨g, 0, none⟩) es.length cap, .int .i64 0, .slice (some ⟨vb, 0, none⟩) 1 1] w (InsPost w B (.slice (some ⟨g, 0, none⟩) es.length cap) es (.iface t x)) := by
  unfold maxLen at hcap
  have hcell : ∀ (j : Nat) v, es[j]? = some v → w.cell? ⟨g, j, none⟩ = some v := fun j v hj => by
    rw [cell_of_row w g j cur _ _ hg]
    rw [← hes, List.getElem?_take] at hj
    split at hj
    · simpa using hj
    · cases hj
  have hsp : ∀ j, j < cap → (w.cell? ⟨g, j, none⟩).isSome = true := fun j hj => by
    rw [cell_of_row w g j cur _ _ hg, Array.getElem?_eq_getElem (by omega)]; rfl
  have hfz : ∀ j, w.frozen? ⟨g, j, none⟩ = false := fun j => frozen_of_row w g j cur _ hg
  have hsz : (Tryz.prog.info? 83).map (·.size) = some 1 := by
    obtain ⟨i0, hi, hz0, hz1, hz2⟩ := info_parts infoE
    rw [hi]; simp [hz1]
  have hov : ∀ lb cb, (callFunc 209 #[.slice (some ⟨vb, 0, none⟩) 1 1, .slice (some ⟨g, 1, none⟩) lb cb]).run Tryz.prog w = .ok (.value (.bool false)) w := fun lb cb => by
    rw [run_callFunc_extern Tryz.func209 (by kernel_rfl) (by kernel_rfl) (by kernel_rfl) (e := Extern.SlicesOverlaps.overlaps #[79, 79] #[4]) (by kernel_rfl),
      Lib.run_overlaps_apart w 79 4 83 Tryz.underlying79 1 (fun _ => by kernel_rfl) ⟨vb, 0, none⟩ ⟨g, 1, none⟩ 1 1 lb cb hne T 83 1 cap (by simp [World.shape?, hv]) (by simp [World.shape?, hg, hcs]) (by omega) (frozen_of_row w vb 0 _ _ hv) (frozen_of_row w vb 1 _ _ hv)]
    rfl
  have hcp1 : ∀ ty dc sc, (Builtin.copy_ #[79, 79] ty #[.slice (some ⟨g, 1, none⟩) es.length dc, .slice (some ⟨g, 0, none⟩) (es.length + 1) sc]).run Tryz.prog w.drew = .ok (goInt es.length) (w.drew.setCells g 1 es) := fun ty dc sc =>
    run_copy_cells w.drew _ _ ty 83 g 1 es.length dc ⟨g, 0, none⟩ (es.length + 1) sc es Tryz.underlying79 hsz (by simp only [Nat.min_def]; split <;> omega)
      (fun j v hj => by rw [Addr.add_lit, Nat.zero_add]; exact hcell j v hj)
      (fun j hj => hsp _ (by omega)) (fun j hj => hfz _) h1
  obtain ⟨c1, hk1, hk2, hk3⟩ := setCells_block g es 1 w.drew cur _ _ hg (by omega)
  obtain ⟨W1, hW1⟩ : ∃ W1, W1 = w.drew.setCells g 1 es := ⟨_, rfl⟩
  rw [← hW1] at hcp1 hk1
  have hvW : W1.heap[vb]? = some (Obj.cells #[.iface t x] T (0, 0)) := by rw [hW1, setCells_other g hne es 1 w.drew]; exact hv
  have hcp2 : ∀ (W : World), (∀ a, W.cell? a = W1.cell? a) → (∀ a, W.frozen? a = W1.frozen? a) → ∀ ty dc, (Builtin.copy_ #[79, 79] ty #[.slice (some ⟨g, 0, none⟩) (es.length + 1) dc, .slice (some ⟨vb, 0, none⟩) 1 1]).run Tryz.prog W = .ok (goInt [Value.iface t x].length) (W.setCells g 0 [.iface t x]) := fun W hWc hWf ty dc =>
    run_copy_cells W _ _ ty 83 g 0 (es.length + 1) dc ⟨vb, 0, none⟩ 1 1 [.iface t x] Tryz.underlying79 hsz (by simp only [Nat.min_def]; split <;> simp <;> omega)
      (fun j v hj => by rw [hWc]; exact cellAt_zero hvW j v hj)
      (fun j hj => by rw [hWc, cell_of_row W1 g _ c1 _ _ hk1, Array.getElem?_eq_getElem (by simp at hj; omega)]; rfl) (fun j hj => by rw [hWf]; exact frozen_of_row W1 g _ c1 _ hk1) (by intro u hu; simp at hu; subst hu; rfl)
  obtain ⟨c2, hm1, hm2, hm3⟩ := setCells_block g [.iface t x] 0 W1 c1 _ _ hk1 (by simp; omega)
  have HO := hide (show (W1.setCells g 0 [.iface t x]).ownsRow B 83 1 (.slice (some ⟨g, 0, none⟩) (es.length + 1) cap) (es.length + 1) (.iface t x :: es) from by
    refine ⟨by simp, Or.inr ⟨g, cap, c2, rfl, hB, hm1, hroom, by unfold maxLen; omega, by omega, ?_⟩⟩
    rw [hm3, hk3]
    obtain ⟨y, hy⟩ : ∃ y, cur.toList.take 1 = [y] := by
      cases h : cur.toList with
      | nil => have : cur.size = 0 := by rw [← Array.length_toList, h]; rfl
               omega
      | cons y r => exact ⟨y, by simp⟩
    rw [hy]
    simp)
  have HU := hide (show Upd (fun k => (Value.slice (some ⟨g, 0, none⟩) es.length cap).ownBlock = some k) w (W1.setCells g 0 [.iface t x]) from by
    rw [hW1]
    exact Upd.setCells (S := fun k => (Value.slice (some ⟨g, 0, none⟩) es.length cap).ownBlock = some k) g rfl _ _ _ (Upd.setCells (S := fun k => (Value.slice (some ⟨g, 0, none⟩) es.length cap).ownBlock = some k) g rfl _ _ _ (Upd.drew (Upd.refl _ _))))
  have b1 : ¬ ((0 : Int) = (es.length : Int)) := by omega
  have b2 : ¬ (cap = 1) := by omega
  have b3 : ¬ (cap = 0) := by omega
  have b4 : (1 : Int) ≤ (es.length : Int) + 1 := by omega
  have b5 : (0 : Int) ≤ (es.length : Int) + 1 := by omega
  have hw1 : IntKind.i64.wrap 1 = 1 := by decide
  have mixed : Tryz.prog.follows Departure.mixedOrders = true := by kernel_rfl
  have HOV := hide hov
  have HC1 := hide hcp1
  have HC2 := hide hcp2
  have HW1 := hide hW1
  clear hcell hsp hfz hcp1 hcp2 hW1 hvW hm1 hm2 hm3 hk1 hk2 hk3 hes h1 hov hg hv hcs hne hB
  go_enter Tryz.func150, Tryz.ntmps150
  go_wp2_with (simp only [HOV.out])
  go_region_law_o (refine step_copy_runI rfl _ _ 79 79 rfl (.slice (some ⟨g, 1, none⟩) es.length (cap - 1)) (.slice (some ⟨g, 0, none⟩) (es.length + 1) cap) (by simp [Act.eval, Act.put]) (by simp [Act.eval, Act.put]) (HC1.out _ _ _) ?_)
  have hc2 := HC2.out W1 (fun _ => rfl) (fun _ => rfl) 3 cap
  go_wp2
  go_ret
  exact ⟨g, cap, rfl, HO.out, HU.out, Or.inl rfl⟩

set_option maxRecDepth 100000 in
set_option maxHeartbeats 4000000 in
theorem insert_grow (w : World) (B g vb : Nat) (es : List Value) (cur : Array Value) (t : TypeId) (x : Value) (T : TypeId) (hn : 0 < es.length) (hl : es.length ≤ 1000) (hg : w.heap[g]? = some (Obj.cells cur 83 (0, 0))) (hB : B ≤ w.heap.size) (hcs : cur.size = es.length) (hes : cur.toList.take es.length = es)
    (hv : w.heap[vb]? = some (Obj.cells #[.iface t x] T (0, 0))) (h1 : ∀ v ∈ es, v.oneCell' = true) :
    Calls Tryz.prog 150 #[.slice (some ⟨g, 0, none⟩) es.length es.length, .int .i64 0, .slice (some ⟨vb, 0, none⟩) 1 1] w (InsPost w B (.slice (some ⟨g, 0, none⟩) es.length es.length) es (.iface t x)) := by
  have hgl := lt_of_some hg
  have hvl := lt_of_some hv
  have hcell : ∀ (j : Nat) v, es[j]? = some v → w.cell? ⟨g, j, none⟩ = some v := fun j v hj => by
    rw [cell_of_row w g j cur _ _ hg]
    rw [← hes, List.getElem?_take] at hj
    split at hj
    · simpa using hj
    · cases hj
  obtain ⟨i0, hi0, hz0, hzs, hzb⟩ := info_parts infoE
  have hsz : (Tryz.prog.info? 83).map (·.size) = some 1 := by rw [hi0]; simp [hzs]
  have hfirst : (Builtin.firstCells i0.size 0 (.slice (some ⟨g, 0, none⟩) 0 es.length)).run Tryz.prog w.drew = .ok ([] : List Value).toArray w.drew := by
    rw [hzs]
    exact run_firstCells_some w.drew 1 0 ⟨g, 0, none⟩ 0 es.length [] (by simp) (fun j v hj => by cases hj)
  obtain ⟨G, hG⟩ : ∃ G, G = grownCap w (0 + (es.length + 1)) es.length 83 := ⟨_, rfl⟩
  have hGn : 0 + (es.length + 1) ≤ G := by rw [hG]; exact grownCap_ge w _ _ _
  have hG63 : G ≤ maxLen := by rw [hG]; exact grownCap_le_maxLen w _ _ _ (by unfold maxLen; omega)
  have hrz := fun ty => Lib.run_append_grow_zeros w 79 3 ty 83 i0 .nilIface .i64 .i64 Tryz.underlying79 Tryz.underlying3 hi0 hz0 (some ⟨g, 0, none⟩) 0 es.length [] hfirst (es.length + 1) (by omega) (by omega) (by omega) (by omega) (by rw [hzb]; omega) (by rw [hzb]; exact growslice_fits (by omega) (by omega))
  rw [← hG] at hrz
  rw [Nat.zero_add] at hrz hGn
  obtain ⟨ROW, hROW⟩ : ∃ ROW : Array Value, ROW = ([] : List Value).toArray ++ Builtin.zeroCells Value.nilIface.cells (es.length + 1) ++ Builtin.zeroCells Value.nilIface.cells (G - (es.length + 1)) := ⟨_, rfl⟩
  rw [← hROW] at hrz
  have hRl : ROW.size = G := by
    rw [hROW]
    simp [Builtin.zeroCells, Value.cells]
    omega
  clear hROW hG
  obtain ⟨W0, hW0⟩ : ∃ W0, W0 = w.drew.alloc (.cells ROW 83) := ⟨_, rfl⟩
  rw [← hW0] at hrz
  have hH : W0.heap[w.heap.size]? = some (Obj.cells ROW 83 (0, 0)) := by rw [hW0]; exact Array.getElem?_push_size
  have hgW : W0.heap[g]? = some (Obj.cells cur 83 (0, 0)) := by rw [hW0, Below.heap_alloc w.drew _ g hgl]; exact hg
  have hvW : W0.heap[vb]? = some (Obj.cells #[.iface t x] T (0, 0)) := by rw [hW0, Below.heap_alloc w.drew _ vb hvl]; exact hv
  obtain ⟨H, hHe⟩ : ∃ H, H = w.heap.size := ⟨_, rfl⟩
  rw [← hHe] at hrz hH hB hgl hvl
  have hrz : ∀ ty, (Builtin.append_ #[79, 3] ty #[.slice (some ⟨g, 0, none⟩) 0 es.length, .int .i64 ((es.length : Int) + 1)]).run Tryz.prog w = .ok (.slice (some ⟨H, 0, none⟩) (es.length + 1) G) W0 := fun ty => by
    have h := hrz ty
    rw [Int.natCast_add] at h
    exact h
  obtain ⟨c1, hk1, hk2, hk3⟩ := setCells_block H [.iface t x] 0 W0 ROW _ _ hH (by simp; omega)
  have hcpA : ∀ ty, (Builtin.copy_ #[79, 79] ty #[.slice (some ⟨H, 0, none⟩) (es.length + 1) G, .slice (some ⟨vb, 0, none⟩) 1 1]).run Tryz.prog W0 = .ok (goInt [Value.iface t x].length) (W0.setCells H 0 [.iface t x]) := fun ty =>
    run_copy_cells W0 _ _ ty 83 H 0 (es.length + 1) G ⟨vb, 0, none⟩ 1 1 [.iface t x] Tryz.underlying79 hsz (by simp only [Nat.min_def]; split <;> simp <;> omega)
      (fun j v hj => cellAt_zero hvW j v hj)
      (fun j hj => by rw [cell_of_row W0 H _ ROW _ _ hH, Array.getElem?_eq_getElem (by simp at hj; omega)]; rfl) (fun j hj => frozen_of_row W0 H _ ROW _ hH) (by intro u hu; simp at hu; subst hu; rfl)
  obtain ⟨W1, hW1⟩ : ∃ W1, W1 = W0.setCells H 0 [.iface t x] := ⟨_, rfl⟩
  rw [← hW1] at hcpA hk1
  have hgW1 : W1.heap[g]? = some (Obj.cells cur 83 (0, 0)) := by rw [hW1, setCells_other H (by omega) _ 0 W0]; exact hgW
  have hcell1 : ∀ (j : Nat) v, es[j]? = some v → W1.cell? ⟨g, j, none⟩ = some v := fun j v hj => by
    rw [World.cell?_of_block (w := w) (a := ⟨g, j, none⟩) (by show W1.heap[g]? = w.heap[g]?; rw [hgW1, hg])]; exact hcell j v hj
  have hcpB : ∀ ty, (Builtin.copy_ #[79, 79] ty #[.slice (some ⟨H, 1, none⟩) es.length (G - 1), .slice (some ⟨g, 0, none⟩) es.length es.length]).run Tryz.prog W1.drew = .ok (goInt es.length) (W1.drew.setCells H 1 es) := fun ty =>
    run_copy_cells W1.drew _ _ ty 83 H 1 es.length (G - 1) ⟨g, 0, none⟩ es.length es.length es Tryz.underlying79 hsz (by simp only [Nat.min_def]; split <;> omega)
      (fun j v hj => by rw [Addr.add_lit, Nat.zero_add]; exact hcell1 j v hj)
      (fun j hj => by show (W1.cell? _).isSome = true; rw [cell_of_row W1 H _ c1 _ _ hk1, Array.getElem?_eq_getElem (by omega)]; rfl) (fun j hj => frozen_of_row W1 H _ c1 _ hk1) h1
  obtain ⟨c2, hm1, hm2, hm3⟩ := setCells_block H es 1 W1.drew c1 _ _ hk1 (by omega)
  obtain ⟨W2, hW2⟩ : ∃ W2, W2 = W1.drew.setCells H 1 es := ⟨_, rfl⟩
  rw [← hW2] at hcpB hm1
  have HO := hide (show W2.ownsRow B 83 1 (.slice (some ⟨H, 0, none⟩) (es.length + 1) G) (es.length + 1) (.iface t x :: es) from by
    refine ⟨by simp, Or.inr ⟨H, G, c2, rfl, hB, hm1, hGn, hG63, by omega, ?_⟩⟩
    rw [hm3, hk3]
    simp)
  have HU := hide (show Upd (fun k => (Value.slice (some ⟨g, 0, none⟩) es.length es.length).ownBlock = some k) w W2 from by
    have hnb : ∀ (W : World) (vs : List Value) (o : Nat), Upd (fun k => (Value.slice (some ⟨g, 0, none⟩) es.length es.length).ownBlock = some k) w W → Upd (fun k => (Value.slice (some ⟨g, 0, none⟩) es.length es.length).ownBlock = some k) w (W.setCells H o vs) := by
      intro W vs
      induction vs generalizing W with
      | nil => intro o h; exact h
      | cons v r ih => intro o h; exact ih _ _ (h.setCell ⟨H, o, none⟩ v (fun hlt => absurd hlt (by rw [hHe]; exact Nat.lt_irrefl _)))
    rw [hW2, hW1, hW0]
    exact hnb _ _ _ (Upd.drew (hnb _ _ _ ((Upd.drew (Upd.refl _ _)).alloc _))))
  unfold maxLen at hG63
  have b1 : ¬ ((0 : Int) = (es.length : Int)) := by omega
  have b2 : ¬ (G = 1) := by omega
  have b3 : ¬ (G = 0) := by omega
  have b6 : ¬ (es.length = 0) := by omega
  have b4 : (1 : Int) ≤ (es.length : Int) + 1 := by omega
  have b5 : (0 : Int) ≤ (es.length : Int) + 1 := by omega
  have b7 : (es.length : Int) < (es.length : Int) + 1 := by omega
  have hw1 : IntKind.i64.wrap 1 = 1 := by decide
  have mixed : Tryz.prog.follows Departure.mixedOrders = true := by kernel_rfl
  have HRZ := hide hrz
  have HCA := hide hcpA
  have HCB := hide hcpB
  have HHE := hide hHe
  clear hcell hcell1 hcpA hcpB hW0 hW1 hW2 hvW hgW hgW1 hm1 hm2 hm3 hk1 hk2 hk3 hes h1 hg hv hcs hB hrz hfirst hHe hH hRl hi0 hz0 hzs hzb hsz
  have hca := HCA.out 3
  go_enter Tryz.func150, Tryz.ntmps150
  go_wp2_with (at_builtin; refine Lib.wpList_append_run _ rfl _ _ _ _ rfl _ _ rfl rfl _ _ (HRZ.out _) ?_)
  go_region_law_o (refine step_copy_runI rfl _ _ 79 79 rfl (.slice (some ⟨H, 1, none⟩) es.length (G - 1)) (.slice (some ⟨g, 0, none⟩) es.length es.length) (by simp [Act.eval, Act.put]) (by simp [Act.eval, Act.put]) (HCB.out _) ?_)
  go_wp2
  go_ret
  exact ⟨H, G, rfl, HO.out, HU.out, Or.inr (Nat.le_of_eq HHE.out.symm)⟩

theorem insert_any (w : World) (B vb : Nat) (u : Value) (es : List Value) (t : TypeId) (x : Value) (T : TypeId) (hr : w.ownsRow B 83 1 u es.length es) (hB : B ≤ w.heap.size) (hl : es.length ≤ 1000) (hv : w.heap[vb]? = some (Obj.cells #[.iface t x] T (0, 0))) (hne : ¬ u.ownBlock = some vb) (h1 : ∀ v ∈ es, v.oneCell' = true) :
    Calls Tryz.prog 150 #[u, .int .i64 0, .slice (some ⟨vb, 0, none⟩) 1 1] w (InsPost w B u es (.iface t x)) := by
  have hr0 := hr
  obtain ⟨hl1, hr⟩ := hr
  rcases Nat.eq_zero_or_pos es.length with h0 | hp
  · have he : es = [] := List.length_eq_zero_iff.1 h0
    subst he
    rcases hr with ⟨rfl, _⟩ | ⟨g, cap, cur, rfl, hBg, hg, hc1, hc2, hc3, hc4⟩
    · exact insert_nil w B none 0 vb t x T hr0 hB hv (by unfold maxLen; omega)
    · exact insert_nil w B _ cap vb t x T hr0 hB hv hc2
  · rcases hr with ⟨rfl, hz⟩ | ⟨g, cap, cur, rfl, hBg, hg, hc1, hc2, hc3, hc4⟩
    · omega
    · rw [Nat.mul_one] at hc3 hc4
      by_cases hcap : cap = es.length
      · subst hcap
        exact insert_grow w B g vb es cur t x T hp hl hg hB hc3 hc4 hv h1
      · exact insert_room w B g cap vb es cur t x T hp hg hBg (by omega) hc2 hc3 hc4 hv (fun h => hne (by rw [h]; rfl)) h1
end Go.Proofs.YtlobegpjenabaaaGreatDoor
