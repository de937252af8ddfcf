/- expr: define. -/
import Derived.Test.YtlobegpjenabaaaGreatDoorImpDef
namespace Go.Proofs.YtlobegpjenabaaaGreatDoor
open Go.RowKit
set_option linter.unusedSimpArgs false
set_option linter.unusedVariables false

/-- defineProcedure, of any head. -/
theorem defProc_any (n m : Nat) (hof : OfC n) (hs vs : List Value) (hd ds : List D) (u v : Value) (w : World) (hrn : RowQ w u hs) (hhd : IVs w m hs hd) (hln : hd.length ≤ 1000) (hrow : RowQ w v vs) (hds : IVs w n vs ds) (hlen : ds.length ≤ 1000) (r : Bool)
    (HR : Hid (r = (decide (0 < hd.length) && (varD (hd.getD 0 (num 0)) && (varsL [] hd.tail && (decide (0 < ds.length) && ds.all (exprF n))))))) :
    Calls Tryz.prog 145 #[u, v] w (OfPost w (wtL ds + wtL hd + 2) r) := by
  match hs, hd, hhd with
  | [], [], _ =>
    obtain ⟨a, cap, rfl, _⟩ := hrn
    have hr : r = false := by rw [HR.out]; rfl
    subst hr
    exact (defProc_nil a cap v w).mono fun e w' h => h.mono (Nat.zero_le _)
  | x :: hs, d :: hd, hhd => exact defProc_go n m hof x hs vs d hd ds u v w hrn hhd hln hrow hds hlen r (by show _ = _; rw [HR.out]; simp)

set_option maxRecDepth 100000 in
set_option maxHeartbeats 2000000 in
theorem define_list (n : Nat) (hof : OfC (n + 1)) (x : Value) (vs : List Value) (d : D) (ds : List D) (v : Value) (w : World) (hrow : RowQ w v (x :: vs)) (hds : IVs w (n + 1) (x :: vs) (d :: ds)) (hlen : (d :: ds).length ≤ 1000) (hil : isList d = true) (r : Bool)
    (HR : Hid (r = (decide (0 < (itemsD d).length) && (varD ((itemsD d).getD 0 (num 0)) && (varsL [] (itemsD d).tail && (decide (0 < ds.length) && ds.all (exprF (n + 1)))))))) :
    Calls Tryz.prog 91 #[v] w (OfPost w (wtL ds + wtL (itemsD d) + 2) r) := by
  have hlv := hds.2.length
  have hid := hds.1.len
  have HDS := hide hds
  have HRW := hide hrow
  obtain ⟨a, cap, rfl, hc1, hc2, hat⟩ := rowQ_at hrow hds
  obtain ⟨g, off, rfl, hg, t1, x1, hiv1, c0⟩ := hat 0 (by simp)
  rw [Nat.add_zero] at c0
  have HV1 := hide (show IV w (n + 1) (.iface t1 x1) d from hiv1)
  clear hat hrow hds hiv1
  unfold maxLen at hc2
  simp only [List.length_cons] at *
  have HOF := hide hof
  have HLV := hide hlv
  clear hof
  have b0 : (((ds.length : Int) + 1) == 0) = false := by rw [beq_eq_false_iff_ne]; omega
  have HIL := hide hil
  clear hil
  go_enter Tryz.func91, Tryz.ntmps91
  go_wp2_with fail
  refine (iitems_any n d (.iface t1 x1) _ HV1.out).mono ?_
  rintro e w2 ⟨u, us, rfl, hru, hus, hb⟩
  rw [HIL.out]
  have HRU := hide hru
  have HUS := hide hus
  have HB := hide hb
  clear hru hus hb
  have HP := hide (fun (tl : Value) (htl : RowQ w2 tl vs) => defProc_any (n + 1) n HOF.out us vs (itemsD d) ds u tl w2 (RowI.q HRU.out) HUS.out hid htl (IVs.keep (Keep.of_below HB.out) _ _ _ HDS.out.2) (by omega) r HR)
  have HQ := hide (HRW.out.below HB.out)
  clear HRU HUS hid HDS HV1 HRW HR hlv c0 HIL
  by_cases hcap : cap = 1
  · have hz : vs = [] := List.length_eq_zero_iff.1 (by have := HLV.out; omega)
    have hz2 : ds.length = 0 := by omega
    have HZ := hide hz
    rw [hz2]
    clear hz hlen hc1
    subst hcap
    go_wp2_with fail
    refine (HP.out _ (by rw [HZ.out]; exact RowQ.none _ _)).mono ?_
    intro e w3 h3
    have HPost := hide (h3.since HB.out)
    obtain ⟨⟨u3, rfl, _⟩, _⟩ := h3
    go_wp2
    go_ret2
    exact HPost.out
  · go_wp2_with fail
    refine (HP.out _ (RowQ.tail HQ.out HLV.out)).mono ?_
    intro e w3 h3
    have HPost := hide (h3.since HB.out)
    obtain ⟨⟨u3, rfl, _⟩, _⟩ := h3
    go_wp2
    go_ret2
    exact HPost.out

set_option maxRecDepth 100000 in
set_option maxHeartbeats 2000000 in
theorem define_atom (n : Nat) (hof : OfC (n + 1)) (x : Value) (vs : List Value) (d : D) (ds : List D) (v : Value) (w : World) (hrow : RowQ w v (x :: vs)) (hds : IVs w (n + 1) (x :: vs) (d :: ds)) (hlen : (d :: ds).length ≤ 1000) (hil : isList d = false) (r : Bool)
    (HR : Hid (r = (decide ((d :: ds).length = 2) && varD ((d :: ds).getD 0 (lst [])) && ((d :: ds).drop 1).all (exprF (n + 1))))) :
    Calls Tryz.prog 91 #[v] w (OfPost w (wtL (d :: ds) + 1) r) := by
  have HN := hide (fun (w2 : World) (hb : Below w.heap.size w w2) => nv_go (n + 1) hof (x :: vs) (d :: ds) v w2 (hrow.below hb) (IVs.keep (Keep.of_below hb) _ _ _ hds) hlen r HR)
  obtain ⟨a, cap, rfl, hc1, hc2, hat⟩ := rowQ_at hrow hds
  obtain ⟨g, off, rfl, hg, t1, x1, hiv1, c0⟩ := hat 0 (by simp)
  rw [Nat.add_zero] at c0
  have HV1 := hide (show IV w (n + 1) (.iface t1 x1) d from hiv1)
  clear hat hrow hds hiv1 HR hof
  unfold maxLen at hc2
  generalize hW : wtL (d :: ds) = W at *
  clear hW
  simp only [List.length_cons] at *
  have b0 : (((ds.length : Int) + 1) == 0) = false := by rw [beq_eq_false_iff_ne]; omega
  have HIL := hide hil
  clear hil
  go_enter Tryz.func91, Tryz.ntmps91
  go_wp2_with fail
  refine (iitems_any n d (.iface t1 x1) _ HV1.out).mono ?_
  rintro e w2 ⟨u, us, rfl, hru, hus, hb⟩
  rw [HIL.out]
  have HB := hide hb
  clear hru hus hb HV1 c0 HIL
  go_wp2_with fail
  refine (HN.out _ HB.out).mono ?_
  rintro e w3 ⟨⟨s, u3, rfl, hu3⟩, hb3⟩
  have hs2 := HB.out.size
  have HB3 := hide (HB.out.trans (hb3.mono hs2))
  have HU := hide hu3
  clear hb3 hu3 HN
  cases r with
  | false =>
    go_wp2
    go_ret2
    exact ⟨⟨_, rfl, fun h => by cases h⟩, HB3.out⟩
  | true =>
    obtain ⟨k, hk, hev⟩ := HU.out rfl
    have HK := hide hk
    have HD := hide (defineAs_any s (hev.imp (P' := fun g => w.heap.size ≤ g) fun g o hg ho => ⟨ho, Nat.le_trans hs2 hg⟩))
    obtain ⟨t3, x3, rfl⟩ := hev.form
    clear HU hev hk
    go_wp2_with fail
    refine HD.out.mono ?_
    rintro e w4 ⟨⟨v4, rfl, hv4⟩, hb4⟩
    have HV4 := hide hv4
    have HB4 := hide (HB3.out.trans (hb4.mono HB3.out.size))
    clear hv4 hb4 HD
    obtain ⟨t4, x4, rfl⟩ := HV4.out.form
    go_wp2
    go_ret2
    exact ⟨⟨_, rfl, fun _ => ⟨_, by have := HK.out; omega, HV4.out⟩⟩, HB4.out⟩

/-- What define asks. -/
def defB (f : D → Bool) (ds : List D) : Bool :=
  if 2 ≤ ds.length ∧ 0 < (itemsD (ds.getD 0 (num 0))).length
  then varD ((itemsD (ds.getD 0 (num 0))).getD 0 (num 0)) && varsL [] (itemsD (ds.getD 0 (num 0))).tail && (ds.drop 1).all f
  else decide (ds.length = 2) && varD (ds.getD 0 (lst [])) && (ds.drop 1).all f

theorem define_any (n : Nat) (hof : OfC n) (vs : List Value) (ds : List D) (v : Value) (w : World) (hrow : RowQ w v vs) (hds : IVs w n vs ds) (hlen : ds.length ≤ 1000) (r : Bool) (HR : Hid (r = defB (exprF n) ds)) :
    Calls Tryz.prog 91 #[v] w (OfPost w (wtL ds + 2) r) := by
  match vs, ds, hds with
  | [], [], _ =>
    obtain ⟨a, cap, rfl, _⟩ := hrow
    have hr : r = false := by rw [HR.out]; rfl
    subst hr
    exact (define_nil a cap w).mono fun e w' h => h.mono (Nat.zero_le _)
  | x :: vs, d :: ds, hds =>
    cases n with
    | zero => exact hds.1.elim
    | succ n =>
      by_cases hi : isList d = true
      · have h2 := itemsD_wt hi
        refine (define_list n hof x vs d ds v w hrow hds hlen hi r ?_).mono fun e w' h => h.mono (by simp only [wtL]; omega)
        show _ = _
        rw [HR.out]
        unfold defB
        simp only [List.getD_cons_zero, List.drop_succ_cons, List.drop_zero, List.length_cons]
        by_cases h0 : 0 < (itemsD d).length
        · by_cases h3 : 0 < ds.length
          · rw [if_pos ⟨by omega, h0⟩]; simp [h0, h3, Bool.and_assoc]
          · rw [if_neg (by omega)]
            have hz : ds.length = 0 := by omega
            simp [hz]
        · rw [if_neg (by omega)]
          have hd : varD d = false := by cases d <;> first | rfl | cases hi
          have hz : (itemsD d).length = 0 := by omega
          simp [hd, hz]
      · have hi : isList d = false := by simpa using hi
        refine (define_atom n hof x vs d ds v w hrow hds hlen hi r ?_).mono fun e w' h => h.mono (by omega)
        show _ = _
        rw [HR.out]
        unfold defB
        have hz : (itemsD d).length = 0 := by cases d <;> first | rfl | cases hi
        rw [if_neg (by simp only [List.getD_cons_zero]; omega)]
end Go.Proofs.YtlobegpjenabaaaGreatDoor
