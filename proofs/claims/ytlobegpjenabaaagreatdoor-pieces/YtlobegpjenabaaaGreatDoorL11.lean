/- expr: let. -/
import Derived.Test.YtlobegpjenabaaaGreatDoorL10
namespace Go.Proofs.YtlobegpjenabaaaGreatDoor
open Go.RowKit
set_option linter.unusedSimpArgs false
set_option linter.unusedVariables false

theorem IVs.up {w : World} {n : Nat} : ∀ (vs : List Value) (ds : List D), IVs w n vs ds → IVs w (n + 1) vs ds
  | [], [], _ => trivial
  | [], _ :: _, h => h.elim
  | _ :: _, [], h => h.elim
  | v :: vs, d :: ds, h => ⟨IV.up n v d h.1, IVs.up vs ds h.2⟩

theorem EVs.one {w : World} {P : Nat → Prop} {k : List E} {es : List Value} (h : EVs w P k es) : ∀ v ∈ es, v.oneCell' = true := by
  induction es generalizing k with
  | nil => intro v hv; cases hv
  | cons e r ih =>
    cases h with
    | cons a b =>
      intro v hv
      rcases List.mem_cons.1 hv with rfl | hv
      · obtain ⟨t, x, rfl⟩ := a.form; rfl
      · exact ih b v hv

/-- What Insert left, as an application. -/
theorem let_end {w w4 w5 w7 : World} {u p : Value} {es : List Value} {g cap : Nat} {k1 : E} {k2 : List E} {o : Obj} (hb4 : Below w.heap.size w w4) (hp : EV w4 (fun g => w.heap.size ≤ g) k1 p) (hb5 : Below w4.heap.size w4 w5) (hu : w5.ownsRow w4.heap.size 83 1 u es.length es) (he : EVs w5 (fun g => w4.heap.size ≤ g ∧ ¬ u.ownBlock = some g) k2 es)
    (hrow : w7.ownsRow w4.heap.size 83 1 (.slice (some ⟨g, 0, none⟩) (es.length + 1) cap) (es.length + 1) (p :: es)) (hupd : Upd (fun k => u.ownBlock = some k) (w5.alloc o) w7) (hg : u.ownBlock = some g ∨ (w5.alloc o).heap.size ≤ g) :
    EV w7 (fun g => w.heap.size ≤ g) (.apply (k1 :: k2)) (.iface 273 (.agg #[.slice (some ⟨g, 0, none⟩) (es.length + 1) cap])) ∧ Below w.heap.size w w7 := by
  have hs4 := hb4.size
  have hs5 := hb5.size
  have kp5 : Keep 205 w4 w5 := Keep.of_below hb5
  have kp7 : Keep 205 w5 w7 := fun x c hx => hupd.at (by rw [Below.heap_alloc _ _ _ (lt_of_some hx)]; exact hx) fun hk => by
    rcases hu.2 with ⟨hv, _⟩ | ⟨g, cap, cu, hv, hg, hh, r⟩
    · rw [hv] at hk; cases hk
    · rw [hv] at hk; cases hk
      rw [hh] at hx; cases hx
  have hup : ∀ (j : Nat) (ob : Obj), w5.heap[j]? = some ob → ¬ u.ownBlock = some j → w7.heap[j]? = some ob := fun j ob hj hn =>
    hupd.at (by rw [Below.heap_alloc _ _ _ (lt_of_some hj)]; exact hj) hn
  refine ⟨EV.apply (es := p :: es) ⟨?_, ?_⟩ (by simp) (EVs.cons ?_ ?_), ?_⟩
  · exact ownsRow_base hrow (Nat.zero_le _)
  · intro j hj
    have := (ownsRow_ge hrow hj).1
    omega
  · refine hp.imp (kp5.trans kp7) fun j ob hj hob => ⟨hup j ob (by rw [hb5.block j (lt_of_some hob)]; exact hob) (fun h => ?_), hj⟩
    have := (ownsRow_ge hu h).1
    have := lt_of_some hob
    omega
  · exact he.imp kp7 fun j ob hj hob => ⟨hup j ob hob hj.2, by omega⟩
  · have h1 : Below w.heap.size w w5 := hb4.trans (hb5.mono hs4)
    have h2 : Below w.heap.size w (w5.alloc o) := h1.alloc h1.size o
    exact h2.trans (hupd.below h2.size (by intro j hj; have := (ownsRow_ge hu hj).1; omega))

set_option maxRecDepth 100000 in
set_option maxHeartbeats 4000000 in
theorem let_go (n : Nat) (hof : OfC (n + 1)) (x : Value) (vs : List Value) (d : D) (ds : List D) (v : Value) (w : World) (hrow : RowQ w v (x :: vs)) (hds : IVs w (n + 1) (x :: vs) (d :: ds)) (hlen : (d :: ds).length ≤ 1000) (r : Bool)
    (HR : Hid (r = (isList d && ((itemsD d).all bOk && ((varsL [] ((itemsD d).map bFst) && (decide (0 < ds.length) && ds.all (exprF (n + 1)))) && ((itemsD d).map bSnd).all (exprF (n + 1))))))) :
    Calls Tryz.prog 95 #[v] w (OfPost w (fun e => letS (exprS (n + 1)) (d :: ds) = some e) r) := by
  have hlv := hds.2.length
  have hid := hds.1.len
  have HDS := hide hds
  have HRW := hide hrow
  obtain ⟨a, cap, rfl, hc1, hc2, hat⟩ := rowQ_at hrow hds
  obtain ⟨g, off, rfl, hg, t1, x1, hiv1, c0⟩ := hat 0 (by simp)
  rw [Nat.add_zero] at c0
  have HV1 := hide (show IV w (n + 1) (.iface t1 x1) d from hiv1)
  clear hat hrow hds hiv1
  unfold maxLen at hc2
  simp only [List.length_cons] at *
  have HOF := hide hof
  have HLV := hide hlv
  clear hof
  have b0 : (((ds.length : Int) + 1) == 0) = false := by rw [beq_eq_false_iff_ne]; omega
  go_enter Tryz.func95, Tryz.ntmps95
  go_wp2_with fail
  refine (iitems_any n d (.iface t1 x1) _ HV1.out).mono ?_
  rintro e w2 ⟨u, us, rfl, hru, hus, hb⟩
  have HB := hide hb
  obtain ⟨il, hil⟩ : ∃ il, il = isList d := ⟨_, rfl⟩
  rw [← hil]
  have HIL := hide hil
  have HSP := hide (split_go n us (itemsD d) u w2 (RowI.q hru) (IVs.up _ _ hus) hid ((itemsD d).all bOk) rfl)
  clear hru hus hb c0 hil HV1
  obtain ⟨sp, hsp⟩ : ∃ sp, sp = (itemsD d).all bOk := ⟨_, rfl⟩
  rw [← hsp] at HSP
  have HS := hide hsp
  clear hsp
  go_wp2_with fail
  refine HSP.out.mono ?_
  rintro e w3 ⟨⟨u2, u3, xs, ys, rfl, hr2, hr3, hyes, hno⟩, hb3⟩
  have HB3 := hide (HB.out.trans (hb3.mono HB.out.size))
  obtain ⟨nd, yd, hnd, hyd, hlnd, hlyd, hndy⟩ : ∃ nd yd, IVs w3 n xs nd ∧ IVs w3 n ys yd ∧ nd.length ≤ 1000 ∧ yd.length ≤ 1000 ∧ (sp = true → nd = (itemsD d).map bFst ∧ yd = (itemsD d).map bSnd) := by
    cases sp with
    | true => exact ⟨_, _, (hyes rfl).1, (hyes rfl).2, by simpa using hid, by simpa using hid, fun _ => ⟨rfl, rfl⟩⟩
    | false => obtain ⟨rfl, rfl⟩ := hno rfl; exact ⟨[], [], trivial, trivial, by simp, by simp, fun h => by cases h⟩
  have HND := hide hndy
  obtain ⟨rp, hrp⟩ : ∃ rp, rp = (varsL [] nd && (decide (0 < ds.length) && ds.all (exprF (n + 1)))) := ⟨_, rfl⟩
  have HRP := hide hrp
  have HP := hide (fun (tl : Value) (htl : RowQ w3 tl vs) => procedure_go (n + 1) n HOF.out xs vs nd ds u2 tl w3 (RowI.q hr2) hnd hlnd htl (IVs.keep (Keep.of_below HB3.out) _ _ _ HDS.out.2) (by omega) rp hrp)
  have HQ := hide (HRW.out.below HB3.out)
  obtain ⟨re, hre⟩ : ∃ re, re = yd.all (exprF (n + 1)) := ⟨_, rfl⟩
  have HRE := hide hre
  have HE := hide (fun (w4 : World) (hb : Below w3.heap.size w3 w4) => each_go (n + 1) HOF.out ys yd u3 w4 ((RowI.q hr3).below hb) (IVs.up _ _ (IVs.keep (Keep.of_below hb) _ _ _ hyd)) hlyd re hre)
  have HR2 := hide (show r = (il && (sp && (rp && re))) from by
    rw [HR.out, ← HIL.out, ← HS.out]
    cases il with
    | false => rfl
    | true =>
      cases sp with
      | false => rfl
      | true => rw [hrp, hre, (hndy rfl).1, (hndy rfl).2])
  have HW := hide (show il = true → sp = true → ∀ p es, procS (exprS (n + 1)) nd ds = some p → eachS (exprS (n + 1)) yd = some es → letS (exprS (n + 1)) (d :: ds) = some (.apply (p :: es)) from fun h1 h2 p es hp he => by
    rw [(hndy h2).1] at hp
    rw [(hndy h2).2] at he
    rw [letS, ← HIL.out, ← HS.out, h1, h2, if_pos (by decide), hp, he])
  have HLY := hide hlyd
  have HRF := hide (show ds.length = 0 → rp = false from fun h => by rw [hrp, h]; simp)
  clear hr2 hr3 hyes hno hb3 hnd hyd hlnd hlyd hndy hrp hre HR HIL HS HSP HDS HRW HOF hid hlv HRP HRE HND
  by_cases hcap : cap = 1
  · have hz : vs = [] := List.length_eq_zero_iff.1 (by have := HLV.out; omega)
    have hz2 : ds.length = 0 := by omega
    have HZ := hide hz
    rw [hz2]
    clear hz hlen hc1
    subst hcap
    go_wp2_with fail
    refine (HP.out _ (by rw [HZ.out]; exact RowQ.none _ _)).mono ?_
    have hrf := HRF.out hz2
    subst hrf
    have hr : r = false := by rw [HR2.out]; cases il <;> cases sp <;> rfl
    subst hr
    rintro e w4 ⟨⟨u4, rfl, hu4⟩, hb4⟩
    have HB4 := hide hb4
    clear hu4 hb4 HP HQ HR2 HRF hz2
    go_wp2_with fail
    refine (HE.out _ HB4.out).mono ?_
    rintro e w5 ⟨⟨u5, rfl, h50, h51⟩, hb5⟩
    have HB34 := hide (HB3.out.trans (HB4.out.mono HB3.out.size))
    have HBB := hide (HB34.out.trans (hb5.mono HB34.out.size))
    clear h50 h51 hb5 HE
    cases il with
    | false =>
      go_wp2
      go_ret2
      exact ⟨⟨_, rfl, fun h => by cases h⟩, HBB.out⟩
    | true =>
    cases sp with
    | false =>
      go_wp2
      go_ret2
      exact ⟨⟨_, rfl, fun h => by cases h⟩, HBB.out⟩
    | true =>
      go_wp2
      go_ret2
      exact ⟨⟨_, rfl, fun h => by cases h⟩, HBB.out⟩
  · go_wp2_with fail
    refine (HP.out _ (RowQ.tail HQ.out HLV.out)).mono ?_
    rintro e w4 ⟨⟨u4, rfl, hu4⟩, hb4⟩
    have HU4 := hide hu4
    have HB4 := hide hb4
    clear hu4 hb4 HP HQ
    go_wp2_with fail
    refine (HE.out _ HB4.out).mono ?_
    rintro e w5 ⟨⟨u5, rfl, h50, h51⟩, hb5⟩
    have H51 := hide h51
    have HB34 := hide (HB3.out.trans (HB4.out.mono HB3.out.size))
    have HB5 := hide hb5
    have HBB := hide (HB34.out.trans (hb5.mono HB34.out.size))
    clear h50 h51 hb5 HE
    cases il with
    | false =>
      have hr : r = false := by rw [HR2.out]; rfl
      subst hr
      clear HR2
      go_wp2
      go_ret2
      exact ⟨⟨_, rfl, fun h => by cases h⟩, HBB.out⟩
    | true =>
    cases sp with
    | false =>
      have hr : r = false := by rw [HR2.out]; rfl
      subst hr
      clear HR2
      go_wp2
      go_ret2
      exact ⟨⟨_, rfl, fun h => by cases h⟩, HBB.out⟩
    | true =>
    cases rp with
    | false =>
      have hr : r = false := by rw [HR2.out]; rfl
      subst hr
      clear HR2
      go_wp2
      go_ret2
      exact ⟨⟨_, rfl, fun h => by cases h⟩, HBB.out⟩
    | true =>
    cases re with
    | false =>
      have hr : r = false := by rw [HR2.out]; rfl
      subst hr
      clear HR2
      go_wp2
      go_ret2
      exact ⟨⟨_, rfl, fun h => by cases h⟩, HBB.out⟩
    | true =>
      have hr : r = true := by rw [HR2.out]; rfl
      subst hr
      obtain ⟨k4, hk4, hev4⟩ := HU4.out rfl
      obtain ⟨es, k5, hk5, hl5, hr5, he5⟩ := H51.out rfl
      obtain ⟨t4, x4, rfl⟩ := hev4.form
      have hsz := HB3.out.size
      have HX := hide (hev4.imp (P' := fun g => w.heap.size ≤ g) (Keep.refl _) fun g o hg ho => ⟨ho, Nat.le_trans hsz hg⟩)
      have HKK := hide (HW.out rfl rfl _ _ hk4 hk5)
      have HRO := hide hr5
      have HEE := hide he5
      have HINS := hide (fun (o : Obj) (hv : (w5.alloc o).heap[w5.heap.size]? = some (Obj.cells #[.iface t4 x4] 83 (0, 0))) => insert_any (w5.alloc o) w4.heap.size w5.heap.size u5 es t4 x4 83 (hr5.alloc _) (by have := HB5.out.size; simp; omega) (by have := HLY.out; omega) hv (fun h => by have := (ownsRow_ge hr5 h).2; omega) (he5.one))
      clear HR2 HU4 H51 hk4 hk5 hev4 hr5 he5 hl5
      obtain ⟨a5, cap5, rfl, _, _, _⟩ := ownsRow_slice HRO.out
      go_wp2_with fail
      refine (HINS.out _ Array.getElem?_push_size).mono ?_
      rintro e w7 ⟨g7, cap7, rfl, ho7, hu7, hg7⟩
      have HEND := hide (let_end HB34.out HX.out HB5.out HRO.out HEE.out ho7 hu7 hg7)
      clear ho7 hu7 hg7
      go_wp2
      go_ret2
      exact ⟨⟨_, rfl, fun _ => ⟨_, HKK.out, HEND.out.1⟩⟩, HEND.out.2⟩

theorem bindL_all (f : D → Bool) : ∀ (l : List D) (seen : List (List UInt8)), bindL f seen l = (l.all bOk && (l.map bSnd).all f)
  | [], _ => rfl
  | b :: r, seen => by
    rw [bindL, bindL_all f r seen]
    simp only [List.all_cons, List.map_cons, bOk, bSnd]
    cases isList b <;> cases decide ((itemsD b).length = 2) <;> cases f ((itemsD b).getD 1 (lst [])) <;> simp
theorem let_any (n : Nat) (hof : OfC n) (vs : List Value) (ds : List D) (v : Value) (w : World) (hrow : RowQ w v vs) (hds : IVs w n vs ds) (hlen : ds.length ≤ 1000) (r : Bool)
    (HR : Hid (r = (decide (2 ≤ ds.length) && isList (ds.getD 0 (num 0)) && bindL (exprF n) [] (itemsD (ds.getD 0 (num 0))) && varsL [] ((itemsD (ds.getD 0 (num 0))).map fun b => (itemsD b).getD 0 (num 0)) && (ds.drop 1).all (exprF n)))) :
    Calls Tryz.prog 95 #[v] w (OfPost w (fun e => letS (exprS n) ds = some e) r) := by
  match vs, ds, hds with
  | [], [], _ =>
    obtain ⟨a, cap, rfl, _⟩ := hrow
    have hr : r = false := by rw [HR.out]; rfl
    subst hr
    exact (let_nil a cap w).mono fun e w' h => h.mono (fun _ hk => hk.elim)
  | x :: vs, d :: ds, hds =>
    cases n with
    | zero => exact hds.1.elim
    | succ n =>
      have hr : r = (isList d && ((itemsD d).all bOk && ((varsL [] ((itemsD d).map bFst) && (decide (0 < ds.length) && ds.all (exprF (n + 1)))) && ((itemsD d).map bSnd).all (exprF (n + 1))))) := by
        rw [HR.out, bindL_all]
        have : decide (2 ≤ (d :: ds).length) = decide (0 < ds.length) := by simp; omega
        rw [this]
        simp only [List.getD_cons_zero, List.drop_succ_cons, List.drop_zero]
        show (_ && varsL [] ((itemsD d).map bFst) && _) = _
        cases decide (0 < ds.length) <;> cases isList d <;> cases (itemsD d).all bOk <;> cases ((itemsD d).map bSnd).all (exprF (n + 1)) <;> cases varsL [] ((itemsD d).map bFst) <;> cases ds.all (exprF (n + 1)) <;> rfl
      exact let_go n hof x vs d ds v w hrow hds hlen r hr
end Go.Proofs.YtlobegpjenabaaaGreatDoor

/- expr: ofList, Of. -/
namespace Go.Proofs.YtlobegpjenabaaaGreatDoor
open Go.RowKit
set_option linter.unusedSimpArgs false
set_option linter.unusedVariables false

set_option maxRecDepth 100000 in
set_option maxHeartbeats 2000000 in
theorem ofList_quote (vs : List Value) (v : Value) (w : World) (m : E → Prop) (r : Bool) (hrow : RowQ w v (.iface 134 (.string ⟨#[113, 117, 111, 116, 101]⟩) :: vs)) (hlen : vs.length ≤ 1000) (hf : ∀ tl, RowQ w tl vs → Calls Tryz.prog 89 #[tl] w (OfPost w m r)) :
    Calls Tryz.prog 57 #[v] w (OfPost w m r) := by
  have HF := hide hf
  have HQ := hide hrow
  obtain ⟨a, cap, rfl, hc1, hc2, hat⟩ := hrow
  obtain ⟨g, off, rfl, hg, hat⟩ := hat (by simp)
  have c0 := hat 0 _ rfl
  rw [Nat.add_zero] at c0
  have hta := as_sym
  unfold maxLen at hc2
  simp only [List.length_cons] at *
  clear hat hf
  go_enter Tryz.func57, Tryz.ntmps57
  by_cases hcap : cap = 1
  · have hz2 : vs.length = 0 := by omega
    have HZ := hide (List.length_eq_zero_iff.1 hz2)
    rw [hz2]
    subst hcap
    clear hc1 hlen
    go_wp2_with fail
    refine (HF.out _ (by rw [HZ.out]; exact RowQ.none _ _)).mono ?_
    intro e w3 h3
    have HPost := hide h3
    obtain ⟨⟨u3, rfl, _⟩, _⟩ := h3
    go_wp2
    go_ret2
    exact HPost.out
  · go_wp2_with fail
    refine (HF.out _ (RowQ.tail HQ.out rfl)).mono ?_
    intro e w3 h3
    have HPost := hide h3
    obtain ⟨⟨u3, rfl, _⟩, _⟩ := h3
    go_wp2
    go_ret2
    exact HPost.out
set_option maxRecDepth 100000 in
set_option maxHeartbeats 2000000 in
theorem ofList_choice (vs : List Value) (v : Value) (w : World) (m : E → Prop) (r : Bool) (hrow : RowQ w v (.iface 134 (.string ⟨#[105, 102]⟩) :: vs)) (hlen : vs.length ≤ 1000) (hf : ∀ tl, RowQ w tl vs → Calls Tryz.prog 90 #[tl] w (OfPost w m r)) :
    Calls Tryz.prog 57 #[v] w (OfPost w m r) := by
  have HF := hide hf
  have HQ := hide hrow
  obtain ⟨a, cap, rfl, hc1, hc2, hat⟩ := hrow
  obtain ⟨g, off, rfl, hg, hat⟩ := hat (by simp)
  have c0 := hat 0 _ rfl
  rw [Nat.add_zero] at c0
  have hta := as_sym
  unfold maxLen at hc2
  simp only [List.length_cons] at *
  clear hat hf
  go_enter Tryz.func57, Tryz.ntmps57
  by_cases hcap : cap = 1
  · have hz2 : vs.length = 0 := by omega
    have HZ := hide (List.length_eq_zero_iff.1 hz2)
    rw [hz2]
    subst hcap
    clear hc1 hlen
    go_wp2_with fail
    refine (HF.out _ (by rw [HZ.out]; exact RowQ.none _ _)).mono ?_
    intro e w3 h3
    have HPost := hide h3
    obtain ⟨⟨u3, rfl, _⟩, _⟩ := h3
    go_wp2
    go_ret2
    exact HPost.out
  · go_wp2_with fail
    refine (HF.out _ (RowQ.tail HQ.out rfl)).mono ?_
    intro e w3 h3
    have HPost := hide h3
    obtain ⟨⟨u3, rfl, _⟩, _⟩ := h3
    go_wp2
    go_ret2
    exact HPost.out
set_option maxRecDepth 100000 in
set_option maxHeartbeats 2000000 in
theorem ofList_define (vs : List Value) (v : Value) (w : World) (m : E → Prop) (r : Bool) (hrow : RowQ w v (.iface 134 (.string ⟨#[100, 101, 102, 105, 110, 101]⟩) :: vs)) (hlen : vs.length ≤ 1000) (hf : ∀ tl, RowQ w tl vs → Calls Tryz.prog 91 #[tl] w (OfPost w m r)) :
    Calls Tryz.prog 57 #[v] w (OfPost w m r) := by
  have HF := hide hf
  have HQ := hide hrow
  obtain ⟨a, cap, rfl, hc1, hc2, hat⟩ := hrow
  obtain ⟨g, off, rfl, hg, hat⟩ := hat (by simp)
  have c0 := hat 0 _ rfl
  rw [Nat.add_zero] at c0
  have hta := as_sym
  unfold maxLen at hc2
  simp only [List.length_cons] at *
  clear hat hf
  go_enter Tryz.func57, Tryz.ntmps57
  by_cases hcap : cap = 1
  · have hz2 : vs.length = 0 := by omega
    have HZ := hide (List.length_eq_zero_iff.1 hz2)
    rw [hz2]
    subst hcap
    clear hc1 hlen
    go_wp2_with fail
    refine (HF.out _ (by rw [HZ.out]; exact RowQ.none _ _)).mono ?_
    intro e w3 h3
    have HPost := hide h3
    obtain ⟨⟨u3, rfl, _⟩, _⟩ := h3
    go_wp2
    go_ret2
    exact HPost.out
  · go_wp2_with fail
    refine (HF.out _ (RowQ.tail HQ.out rfl)).mono ?_
    intro e w3 h3
    have HPost := hide h3
    obtain ⟨⟨u3, rfl, _⟩, _⟩ := h3
    go_wp2
    go_ret2
    exact HPost.out
set_option maxRecDepth 100000 in
set_option maxHeartbeats 2000000 in
theorem ofList_set (vs : List Value) (v : Value) (w : World) (m : E → Prop) (r : Bool) (hrow : RowQ w v (.iface 134 (.string ⟨#[115, 101, 116, 33]⟩) :: vs)) (hlen : vs.length ≤ 1000) (hf : ∀ tl, RowQ w tl vs → Calls Tryz.prog 92 #[tl] w (OfPost w m r)) :
    Calls Tryz.prog 57 #[v] w (OfPost w m r) := by
  have HF := hide hf
  have HQ := hide hrow
  obtain ⟨a, cap, rfl, hc1, hc2, hat⟩ := hrow
  obtain ⟨g, off, rfl, hg, hat⟩ := hat (by simp)
  have c0 := hat 0 _ rfl
  rw [Nat.add_zero] at c0
  have hta := as_sym
  unfold maxLen at hc2
  simp only [List.length_cons] at *
  clear hat hf
  go_enter Tryz.func57, Tryz.ntmps57
  by_cases hcap : cap = 1
  · have hz2 : vs.length = 0 := by omega
    have HZ := hide (List.length_eq_zero_iff.1 hz2)
    rw [hz2]
    subst hcap
    clear hc1 hlen
    go_wp2_with fail
    refine (HF.out _ (by rw [HZ.out]; exact RowQ.none _ _)).mono ?_
    intro e w3 h3
    have HPost := hide h3
    obtain ⟨⟨u3, rfl, _⟩, _⟩ := h3
    go_wp2
    go_ret2
    exact HPost.out
  · go_wp2_with fail
    refine (HF.out _ (RowQ.tail HQ.out rfl)).mono ?_
    intro e w3 h3
    have HPost := hide h3
    obtain ⟨⟨u3, rfl, _⟩, _⟩ := h3
    go_wp2
    go_ret2
    exact HPost.out
set_option maxRecDepth 100000 in
set_option maxHeartbeats 2000000 in
theorem ofList_lambda (vs : List Value) (v : Value) (w : World) (m : E → Prop) (r : Bool) (hrow : RowQ w v (.iface 134 (.string ⟨#[108, 97, 109, 98, 100, 97]⟩) :: vs)) (hlen : vs.length ≤ 1000) (hf : ∀ tl, RowQ w tl vs → Calls Tryz.prog 93 #[tl] w (OfPost w m r)) :
    Calls Tryz.prog 57 #[v] w (OfPost w m r) := by
  have HF := hide hf
  have HQ := hide hrow
  obtain ⟨a, cap, rfl, hc1, hc2, hat⟩ := hrow
  obtain ⟨g, off, rfl, hg, hat⟩ := hat (by simp)
  have c0 := hat 0 _ rfl
  rw [Nat.add_zero] at c0
  have hta := as_sym
  unfold maxLen at hc2
  simp only [List.length_cons] at *
  clear hat hf
  go_enter Tryz.func57, Tryz.ntmps57
  by_cases hcap : cap = 1
  · have hz2 : vs.length = 0 := by omega
    have HZ := hide (List.length_eq_zero_iff.1 hz2)
    rw [hz2]
    subst hcap
    clear hc1 hlen
    go_wp2_with fail
    refine (HF.out _ (by rw [HZ.out]; exact RowQ.none _ _)).mono ?_
    intro e w3 h3
    have HPost := hide h3
    obtain ⟨⟨u3, rfl, _⟩, _⟩ := h3
    go_wp2
    go_ret2
    exact HPost.out
  · go_wp2_with fail
    refine (HF.out _ (RowQ.tail HQ.out rfl)).mono ?_
    intro e w3 h3
    have HPost := hide h3
    obtain ⟨⟨u3, rfl, _⟩, _⟩ := h3
    go_wp2
    go_ret2
    exact HPost.out
set_option maxRecDepth 100000 in
set_option maxHeartbeats 2000000 in
theorem ofList_sequence (vs : List Value) (v : Value) (w : World) (m : E → Prop) (r : Bool) (hrow : RowQ w v (.iface 134 (.string ⟨#[98, 101, 103, 105, 110]⟩) :: vs)) (hlen : vs.length ≤ 1000) (hf : ∀ tl, RowQ w tl vs → Calls Tryz.prog 94 #[tl] w (OfPost w m r)) :
    Calls Tryz.prog 57 #[v] w (OfPost w m r) := by
  have HF := hide hf
  have HQ := hide hrow
  obtain ⟨a, cap, rfl, hc1, hc2, hat⟩ := hrow
  obtain ⟨g, off, rfl, hg, hat⟩ := hat (by simp)
  have c0 := hat 0 _ rfl
  rw [Nat.add_zero] at c0
  have hta := as_sym
  unfold maxLen at hc2
  simp only [List.length_cons] at *
  clear hat hf
  go_enter Tryz.func57, Tryz.ntmps57
  by_cases hcap : cap = 1
  · have hz2 : vs.length = 0 := by omega
    have HZ := hide (List.length_eq_zero_iff.1 hz2)
    rw [hz2]
    subst hcap
    clear hc1 hlen
    go_wp2_with fail
    refine (HF.out _ (by rw [HZ.out]; exact RowQ.none _ _)).mono ?_
    intro e w3 h3
    have HPost := hide h3
    obtain ⟨⟨u3, rfl, _⟩, _⟩ := h3
    go_wp2
    go_ret2
    exact HPost.out
  · go_wp2_with fail
    refine (HF.out _ (RowQ.tail HQ.out rfl)).mono ?_
    intro e w3 h3
    have HPost := hide h3
    obtain ⟨⟨u3, rfl, _⟩, _⟩ := h3
    go_wp2
    go_ret2
    exact HPost.out
set_option maxRecDepth 100000 in
set_option maxHeartbeats 2000000 in
theorem ofList_let (vs : List Value) (v : Value) (w : World) (m : E → Prop) (r : Bool) (hrow : RowQ w v (.iface 134 (.string ⟨#[108, 101, 116]⟩) :: vs)) (hlen : vs.length ≤ 1000) (hf : ∀ tl, RowQ w tl vs → Calls Tryz.prog 95 #[tl] w (OfPost w m r)) :
    Calls Tryz.prog 57 #[v] w (OfPost w m r) := by
  have HF := hide hf
  have HQ := hide hrow
  obtain ⟨a, cap, rfl, hc1, hc2, hat⟩ := hrow
  obtain ⟨g, off, rfl, hg, hat⟩ := hat (by simp)
  have c0 := hat 0 _ rfl
  rw [Nat.add_zero] at c0
  have hta := as_sym
  unfold maxLen at hc2
  simp only [List.length_cons] at *
  clear hat hf
  go_enter Tryz.func57, Tryz.ntmps57
  by_cases hcap : cap = 1
  · have hz2 : vs.length = 0 := by omega
    have HZ := hide (List.length_eq_zero_iff.1 hz2)
    rw [hz2]
    subst hcap
    clear hc1 hlen
    go_wp2_with fail
    refine (HF.out _ (by rw [HZ.out]; exact RowQ.none _ _)).mono ?_
    intro e w3 h3
    have HPost := hide h3
    obtain ⟨⟨u3, rfl, _⟩, _⟩ := h3
    go_wp2
    go_ret2
    exact HPost.out
  · go_wp2_with fail
    refine (HF.out _ (RowQ.tail HQ.out rfl)).mono ?_
    intro e w3 h3
    have HPost := hide h3
    obtain ⟨⟨u3, rfl, _⟩, _⟩ := h3
    go_wp2
    go_ret2
    exact HPost.out

set_option maxRecDepth 100000 in
set_option maxHeartbeats 2000000 in
theorem ofList_name (s : ByteArray) (hk : kwB s.data.toList = false) (vs : List Value) (v : Value) (w : World) (m : E → Prop) (r : Bool) (hrow : RowQ w v (.iface 134 (.string s) :: vs)) (hf : Calls Tryz.prog 96 #[v] w (OfPost w m r)) :
    Calls Tryz.prog 57 #[v] w (OfPost w m r) := by
  have HF := hide hf
  rw [kwB_of] at hk
  simp only [Bool.or_eq_false_iff] at hk
  obtain ⟨k1, k2, k3, k4, k5, k6, k7⟩ := hk
  obtain ⟨a, cap, rfl, hc1, hc2, hat⟩ := hrow
  obtain ⟨g, off, rfl, hg, hat⟩ := hat (by simp)
  have c0 := hat 0 _ rfl
  rw [Nat.add_zero] at c0
  have hta := as_sym
  unfold maxLen at hc2
  simp only [List.length_cons] at *
  clear hat hf
  go_enter Tryz.func57, Tryz.ntmps57
  go_wp2_with fail
  refine HF.out.mono ?_
  intro e w3 h3
  have HPost := hide h3
  obtain ⟨⟨u3, rfl, _⟩, _⟩ := h3
  go_wp2
  go_ret2
  exact HPost.out

set_option maxRecDepth 100000 in
set_option maxHeartbeats 2000000 in
theorem ofList_Int (x : Value) (vs : List Value) (v : Value) (w : World) (m : E → Prop) (r : Bool) (hrow : RowQ w v (.iface 130 x :: vs)) (hf : Calls Tryz.prog 96 #[v] w (OfPost w m r)) :
    Calls Tryz.prog 57 #[v] w (OfPost w m r) := by
  have HF := hide hf
  obtain ⟨a, cap, rfl, hc1, hc2, hat⟩ := hrow
  obtain ⟨g, off, rfl, hg, hat⟩ := hat (by simp)
  have c0 := hat 0 _ rfl
  rw [Nat.add_zero] at c0
  have hta := as_sym_Int
  unfold maxLen at hc2
  simp only [List.length_cons] at *
  clear hat hf
  go_enter Tryz.func57, Tryz.ntmps57
  go_wp2_with fail
  refine HF.out.mono ?_
  intro e w3 h3
  have HPost := hide h3
  obtain ⟨⟨u3, rfl, _⟩, _⟩ := h3
  go_wp2
  go_ret2
  exact HPost.out
set_option maxRecDepth 100000 in
set_option maxHeartbeats 2000000 in
theorem ofList_Bool (x : Value) (vs : List Value) (v : Value) (w : World) (m : E → Prop) (r : Bool) (hrow : RowQ w v (.iface 131 x :: vs)) (hf : Calls Tryz.prog 96 #[v] w (OfPost w m r)) :
    Calls Tryz.prog 57 #[v] w (OfPost w m r) := by
  have HF := hide hf
  obtain ⟨a, cap, rfl, hc1, hc2, hat⟩ := hrow
  obtain ⟨g, off, rfl, hg, hat⟩ := hat (by simp)
  have c0 := hat 0 _ rfl
  rw [Nat.add_zero] at c0
  have hta := as_sym_Bool
  unfold maxLen at hc2
  simp only [List.length_cons] at *
  clear hat hf
  go_enter Tryz.func57, Tryz.ntmps57
  go_wp2_with fail
  refine HF.out.mono ?_
  intro e w3 h3
  have HPost := hide h3
  obtain ⟨⟨u3, rfl, _⟩, _⟩ := h3
  go_wp2
  go_ret2
  exact HPost.out
set_option maxRecDepth 100000 in
set_option maxHeartbeats 2000000 in
theorem ofList_Empty (x : Value) (vs : List Value) (v : Value) (w : World) (m : E → Prop) (r : Bool) (hrow : RowQ w v (.iface 207 x :: vs)) (hf : Calls Tryz.prog 96 #[v] w (OfPost w m r)) :
    Calls Tryz.prog 57 #[v] w (OfPost w m r) := by
  have HF := hide hf
  obtain ⟨a, cap, rfl, hc1, hc2, hat⟩ := hrow
  obtain ⟨g, off, rfl, hg, hat⟩ := hat (by simp)
  have c0 := hat 0 _ rfl
  rw [Nat.add_zero] at c0
  have hta := as_sym_Empty
  unfold maxLen at hc2
  simp only [List.length_cons] at *
  clear hat hf
  go_enter Tryz.func57, Tryz.ntmps57
  go_wp2_with fail
  refine HF.out.mono ?_
  intro e w3 h3
  have HPost := hide h3
  obtain ⟨⟨u3, rfl, _⟩, _⟩ := h3
  go_wp2
  go_ret2
  exact HPost.out
set_option maxRecDepth 100000 in
set_option maxHeartbeats 2000000 in
theorem ofList_Pair (x : Value) (vs : List Value) (v : Value) (w : World) (m : E → Prop) (r : Bool) (hrow : RowQ w v (.iface 136 x :: vs)) (hf : Calls Tryz.prog 96 #[v] w (OfPost w m r)) :
    Calls Tryz.prog 57 #[v] w (OfPost w m r) := by
  have HF := hide hf
  obtain ⟨a, cap, rfl, hc1, hc2, hat⟩ := hrow
  obtain ⟨g, off, rfl, hg, hat⟩ := hat (by simp)
  have c0 := hat 0 _ rfl
  rw [Nat.add_zero] at c0
  have hta := as_sym_Pair
  unfold maxLen at hc2
  simp only [List.length_cons] at *
  clear hat hf
  go_enter Tryz.func57, Tryz.ntmps57
  go_wp2_with fail
  refine HF.out.mono ?_
  intro e w3 h3
  have HPost := hide h3
  obtain ⟨⟨u3, rfl, _⟩, _⟩ := h3
  go_wp2
  go_ret2
  exact HPost.out
end Go.Proofs.YtlobegpjenabaaaGreatDoor
