/- expr: lambda. -/
import Derived.Test.YtlobegpjenabaaaGreatDoorImpName
namespace Go.Proofs.YtlobegpjenabaaaGreatDoor
open Go.RowKit
set_option linter.unusedSimpArgs false
set_option linter.unusedVariables false

/-- All but the first. -/
theorem RowQ.tail {w : World} {g off n cap : Nat} {x : Value} {vs : List Value} (h : RowQ w (.slice (some ⟨g, off, none⟩) (n + 1) cap) (x :: vs)) (hn : vs.length = n) : RowQ w (.slice (some ⟨g, off + 1, none⟩) n (cap - 1)) vs := by
  obtain ⟨a, c, hv, h1, h2, h3⟩ := h
  cases hv
  simp only [List.length_cons] at h1
  refine ⟨_, _, by rw [hn], by omega, by omega, fun hp => ?_⟩
  obtain ⟨g', off', ha, hg, hc⟩ := h3 (by simp)
  cases ha
  exact ⟨g, off + 1, rfl, hg, fun j u hj => by rw [Nat.add_assoc, Nat.add_comm 1 j]; exact hc (j + 1) u hj⟩

/-- The row of nothing. -/
theorem RowQ.none (w : World) (a : Option Addr) : RowQ w (.slice a 0 0) [] := ⟨a, 0, rfl, Nat.le_refl _, Nat.zero_le _, fun h => absurd h (by simp)⟩
theorem OfPost.mono {w w' : World} {m m' : Nat} {r : Bool} {e : Ending} (h : OfPost w m r e w') (hm : m ≤ m') : OfPost w m' r e w' := by
  obtain ⟨⟨u, he, hu⟩, hb⟩ := h
  refine ⟨⟨u, he, fun hr => ?_⟩, hb⟩
  obtain ⟨k, hk, hev⟩ := hu hr
  exact ⟨k, Nat.le_trans hk hm, hev⟩
/-- The same, of a world that came out of an elder one. -/
theorem OfPost.since {w w2 w' : World} {m : Nat} {r : Bool} {e : Ending} (h : OfPost w2 m r e w') (hb : Below w.heap.size w w2) : OfPost w m r e w' := by
  obtain ⟨⟨u, he, hu⟩, hb2⟩ := h
  refine ⟨⟨u, he, fun hr => ?_⟩, hb.trans (hb2.mono hb.size)⟩
  obtain ⟨k, hk, hev⟩ := hu hr
  exact ⟨k, hk, hev.imp fun g o hg ho => ⟨ho, Nat.le_trans hb.size hg⟩⟩
theorem len_zero {ds : List D} (h : ds.length = 0) : ds = [] := List.length_eq_zero_iff.1 h

set_option maxRecDepth 100000 in
set_option maxHeartbeats 2000000 in
theorem lambda_go (n : Nat) (hof : OfC (n + 1)) (x : Value) (vs : List Value) (d : D) (ds : List D) (v : Value) (w : World) (hrow : RowQ w v (x :: vs)) (hds : IVs w (n + 1) (x :: vs) (d :: ds)) (hlen : (d :: ds).length ≤ 1000) (r : Bool) (HR : Hid (r = (isList d && (varsL [] (itemsD d) && (decide (0 < ds.length) && ds.all (exprF (n + 1))))))) :
    Calls Tryz.prog 93 #[v] w (OfPost w (wtL ds + wtL (itemsD d) + 2) r) := by
  have hlv := hds.2.length
  have hid := hds.1.len
  have HDS := hide hds
  have HRW := hide hrow
  obtain ⟨a, cap, rfl, hc1, hc2, hat⟩ := rowQ_at hrow hds
  obtain ⟨g, off, rfl, hg, t1, x1, hiv1, c0⟩ := hat 0 (by simp)
  rw [Nat.add_zero] at c0
  have HV1 := hide (show IV w (n + 1) (.iface t1 x1) d from hiv1)
  clear hat hrow hds hiv1
  unfold maxLen at hc2
  simp only [List.length_cons] at *
  have HOF := hide hof
  have HLV := hide hlv
  clear hof
  have b0 : (((ds.length : Int) + 1) == 0) = false := by rw [beq_eq_false_iff_ne]; omega
  go_enter Tryz.func93, Tryz.ntmps93
  go_wp2_with fail
  refine (iitems_any n d (.iface t1 x1) _ HV1.out).mono ?_
  rintro e w2 ⟨u, us, rfl, hru, hus, hb⟩
  have HRU := hide hru
  have HUS := hide hus
  have HB := hide hb
  clear hru hus hb
  cases hil : isList d with
  | false =>
    have hr : r = false := by rw [HR.out, hil]; rfl
    subst hr
    clear HR hil
    go_wp2
    go_ret2
    exact ⟨⟨_, rfl, fun h => by cases h⟩, HB.out⟩
  | true =>
    have HR2 := hide (show r = (varsL [] (itemsD d) && (decide (0 < ds.length) && ds.all (exprF (n + 1)))) from by rw [HR.out, hil]; rfl)
    clear HR hil
    have HP := hide (fun (tl : Value) (htl : RowQ w2 tl vs) => procedure_go (n + 1) n HOF.out us vs (itemsD d) ds u tl w2 (RowI.q HRU.out) HUS.out hid htl (IVs.keep (Keep.of_below HB.out) _ _ _ HDS.out.2) (by omega) r HR2)
    have HQ := hide (HRW.out.below HB.out)
    clear HRU HUS hid HDS HV1 HRW HR2 hlv c0
    by_cases hcap : cap = 1
    · have hz : vs = [] := List.length_eq_zero_iff.1 (by have := HLV.out; omega)
      have hz2 : ds.length = 0 := by omega
      have HZ := hide hz
      rw [hz2]
      clear hz hlen hc1
      subst hcap
      go_wp2_with fail
      refine (HP.out _ (by rw [HZ.out]; exact RowQ.none _ _)).mono ?_
      intro e w3 h3
      have HPost := hide (h3.since HB.out)
      obtain ⟨⟨u3, rfl, _⟩, _⟩ := h3
      go_wp2
      go_ret2
      exact HPost.out
    · go_wp2_with fail
      refine (HP.out _ (RowQ.tail HQ.out HLV.out)).mono ?_
      intro e w3 h3
      have HPost := hide (h3.since HB.out)
      obtain ⟨⟨u3, rfl, _⟩, _⟩ := h3
      go_wp2
      go_ret2
      exact HPost.out

set_option maxHeartbeats 2000000 in
theorem lambda_nil (a : Option Addr) (cap : Nat) (w : World) : Calls Tryz.prog 93 #[.slice a 0 cap] w (OfPost w 0 false) := by
  go_enter Tryz.func93, Tryz.ntmps93
  go_wp2
  go_ret2
  exact ⟨⟨_, rfl, fun h => by cases h⟩, Below.refl _ _⟩
theorem define_nil (a : Option Addr) (cap : Nat) (w : World) : Calls Tryz.prog 91 #[.slice a 0 cap] w (OfPost w 0 false) := by
  go_enter Tryz.func91, Tryz.ntmps91
  go_wp2
  go_ret2
  exact ⟨⟨_, rfl, fun h => by cases h⟩, Below.refl _ _⟩
theorem let_nil (a : Option Addr) (cap : Nat) (w : World) : Calls Tryz.prog 95 #[.slice a 0 cap] w (OfPost w 0 false) := by
  go_enter Tryz.func95, Tryz.ntmps95
  go_wp2
  go_ret2
  exact ⟨⟨_, rfl, fun h => by cases h⟩, Below.refl _ _⟩

theorem itemsD_wt {d : D} (h : isList d = true) : wtL (itemsD d) + 1 = wtD d := by
  cases d <;> first | rfl | cases h

/-- lambda of any parts. -/
theorem lambda_any (n : Nat) (hof : OfC n) (vs : List Value) (ds : List D) (v : Value) (w : World) (hrow : RowQ w v vs) (hds : IVs w n vs ds) (hlen : ds.length ≤ 1000) (r : Bool) (HR : Hid (r = (decide (2 ≤ ds.length) && isList (ds.getD 0 (num 0)) && varsL [] (itemsD (ds.getD 0 (num 0))) && (ds.drop 1).all (exprF n)))) :
    Calls Tryz.prog 93 #[v] w (OfPost w (wtL ds + 2) r) := by
  match vs, ds, hds with
  | [], [], _ =>
    obtain ⟨a, cap, rfl, _⟩ := hrow
    have hr : r = false := by rw [HR.out]; rfl
    subst hr
    exact (lambda_nil a cap w).mono fun e w' h => h.mono (Nat.zero_le _)
  | x :: vs, d :: ds, hds =>
    cases n with
    | zero => exact hds.1.elim
    | succ n =>
      have hr : r = (isList d && (varsL [] (itemsD d) && (decide (0 < ds.length) && ds.all (exprF (n + 1))))) := by
        rw [HR.out]
        have : decide (2 ≤ (d :: ds).length) = decide (0 < ds.length) := by simp; omega
        rw [this]
        simp only [List.getD_cons_zero, List.drop_succ_cons, List.drop_zero]
        cases decide (0 < ds.length) <;> simp [Bool.and_assoc]
      by_cases hi : isList d = true
      · have h2 := itemsD_wt hi
        exact (lambda_go n hof x vs d ds v w hrow hds hlen r hr).mono fun e w' h => h.mono (by simp only [wtL]; omega)
      · have hf : r = false := by rw [hr]; simp [hi]
        subst hf
        refine (lambda_go n hof x vs d ds v w hrow hds hlen false hr).mono fun e w' h => ?_
        obtain ⟨⟨u, he, hu⟩, hb⟩ := h
        exact ⟨⟨u, he, fun h => by cases h⟩, hb⟩
end Go.Proofs.YtlobegpjenabaaaGreatDoor
