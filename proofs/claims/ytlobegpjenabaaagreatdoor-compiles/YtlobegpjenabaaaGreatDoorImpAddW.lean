/- read: add. -/
import Derived.Test.YtlobegpjenabaaaGreatDoorImpAdd
namespace Go.Proofs.YtlobegpjenabaaaGreatDoor
open Go.RowKit
set_option linter.unusedSimpArgs false
set_option linter.unusedVariables false

def cntS (forms : List D) (opens : List (Bool × List D)) : Nat := forms.length + (opens.map fun o => o.2.length + 1).sum
theorem addS_cnt (forms : List D) : ∀ (opens : List (Bool × List D)) (d : D), cntS (addS forms opens d).1 (addS forms opens d).2 ≤ cntS forms opens + 1
  | [], d => by simp [addS, cntS]
  | (true, ds) :: os, d => by
    have := addS_cnt forms os (lst [sym qsym, d])
    simp only [addS]
    simp only [cntS, List.map_cons, List.sum_cons] at *
    omega
  | (false, ds) :: os, d => by simp [addS, cntS]; omega
/-- How many are open, in memory. -/
def openLen (R : Nat) (w : World) : Nat := match w.cell? ⟨R, 1, none⟩ with | some v => lenOf v | _ => 0
theorem openLen_of {w : World} {R : Nat} {fv ov : Value} (h : w.heap[R]? = some (rdr fv ov)) : openLen R w = lenOf ov := by
  have := cell_of_block (o := 1) h
  unfold openLen; rw [this]; rfl
theorem row_two_i {w : World} {b B : Nat} {v1 v2 : Value} (hB : B ≤ b) (h : w.heap[b]? = some (Obj.cells #[v1, v2] 81 (0, 0))) : RowI B w (.slice (some ⟨b, 0, none⟩) 2 2) [v1, v2] :=
  ⟨rfl, Or.inr ⟨b, 2, _, rfl, hB, h, Nat.le_refl _, by unfold maxLen; omega, rfl, rfl⟩⟩

/-- What stands in the walk of add at a round's head. -/
def AddRel (w : World) (R B : Nat) (forms : List D) (opens : List (Bool × List D)) (fv : Value) (fs : List Value) (d : D) (u : Value) (wr : World) (opens1 : List (Bool × List D)) (d1 : D) (ov1 : Value) (its1 : List (Value × List Value)) : Prop :=
  addS forms opens1 d1 = addS forms opens d ∧ RdOk wr R B forms opens1 fv ov1 fs its1 ∧ IV wr (21 - opens1.length) u d1 ∧ UpdR R B w wr ∧ opens1.length ≤ opens.length ∧ cntS forms opens1 ≤ cntS forms opens

set_option maxRecDepth 100000 in
set_option maxHeartbeats 1000000 in
theorem add_any (w : World) (R B : Nat) (forms : List D) (opens : List (Bool × List D)) (fv ov : Value) (fs : List Value) (its : List (Value × List Value)) (d : D) (u : Value) (h : RdOk w R B forms opens fv ov fs its) (hB : B ≤ w.heap.size) (h20 : opens.length ≤ 20) (hcnt : cntS forms opens ≤ 1000)
    (hd : IV w (21 - opens.length) u d) (r : List D × List (Bool × List D)) (HR : Hid (addS forms opens d = r)) :
    Calls Tryz.prog 86 #[.pointer (some ⟨R, 0, none⟩), u] w fun e w' => e = .returned (.tuple #[]) ∧ ∃ fv' ov' fs' its', RdOk w' R B r.1 r.2 fv' ov' fs' its' ∧ UpdR R B w w' := by
  have HH := hide h
  have HD := hide hd
  have hRB := h.hlt
  clear h
  obtain ⟨t0, x0, rfl⟩ := IV.form _ _ _ hd
  clear hd
  go_enter Tryz.func86, Tryz.ntmps86
  go_wp2
  go_loopw [1] (fun u wr => ∃ opens1 d1 ov1 its1, AddRel w R B forms opens fv fs d u wr opens1 d1 ov1 its1) (fun _ wr => openLen R wr)
  case atStart => exact ⟨opens, d, ov, its, rfl, HH.out, HD.out, UpdR.refl _ _ _, Nat.le_refl _, Nat.le_refl _⟩
  case round =>
    obtain ⟨opens1, d1, ov1, its1, hadd, hok, hiv, hup, hol, hcn⟩ := hrel
    obtain ⟨t1, x1, rfl⟩ := IV.form _ _ _ hiv
    have HADD := hide hadd
    have HOK := hide hok
    have HIV := hide hiv
    have HUP := hide hup
    have hBr := hup.upd.size
    have hl1 := hok.hits.length
    simp only [List.length_reverse] at hl1
    have hRl := lt_of_some hok.hR
    clear hadd hiv hup
    match opens1, hok with
    | [], hok =>
      have hits0 : its1 = [] := by cases its1 with | nil => rfl | cons a b => simp at hl1
      subst hits0
      obtain ⟨a, cap, hv, hc1, hc2, _⟩ := ownsRow_slice hok.ho
      obtain ⟨af, capf, hvf, hf1, hf2, _⟩ := ownsRow_slice hok.hf
      subst hv
      subst hvf
      have c0 := cell_of_block hok.hR 0
      have c1 := cell_of_block hok.hR 1
      have f0 := frozen_of_block hok.hR 0
      simp at c0 c1
      have hfl := hok.hfi.length
      have hfs : fs.length ≤ 1000 := by rw [hfl]; simp [cntS] at hcnt; omega
      obtain ⟨i0, hinf, hz0, hz1, hz2⟩ := info_parts infoVal
      have HI := hide (And.intro hinf (And.intro hz0 (And.intro hz1 hz2)))
      have HFL := hide hfl
      clear hinf hz0 hz1 hz2 hok hfl
      go_wp2_with (at_builtin; refine wpList_append_lies _ rfl (.tmp 34) (.tmp 36) 76 rfl B 81 i0 .nilIface 1 16 Tryz.underlying76 HI.out.1 HI.out.2.1 HI.out.2.2.1 HI.out.2.2.2 rfl (by decide) _ fs.length fs rfl (HOK.out.hf.alloc _) ⟨wr.heap.size, 0, none⟩ 1 1 [.iface t1 x1] rfl rfl (cell_one_new _ _ _) (by intro u hu; simp at hu; subst hu; rfl) (by decide) (by unfold maxLen; omega) (by omega) (by simp; omega) (wr.heap.size + 1) (by simp) ?_)
      intro g' cap' w2 hown2 hgrow hat hlt2
      have hu2 := items_upd hgrow
      have hR2 := hu2.at HOK.out.hR (fun hx => by have := (ownsRow_ge HOK.out.hf hx).1; omega)
      have d0 := cell_of_block hR2 0
      have f0 := frozen_of_block hR2 0
      simp at d0
      have HO2 := hide hown2
      have HU2 := hide hu2
      clear hown2 hgrow hu2 hR2 hat c0 c1
      go_wp2
      refine bodyPost_ret (results_none rfl _ _ _) rfl ?_
      refine ⟨rfl, ?_⟩
      obtain ⟨hok4, hup4⟩ := form_ok (d := d1) HOK.out HFL.out HIV.out HU2.out HO2.out _ rfl
      have hr : r = (forms ++ [d1], []) := by rw [← HR.out, ← HADD.out]; rfl
      rw [hr]
      exact ⟨_, _, _, _, hok4, HUP.out.trans hup4⟩
    | (true, ds) :: os, hok =>
      obtain ⟨g, cap, is', v, vs, rfl, rfl, hil, hcc1, hcc2, hBg, hgl, cq, cv, fz, hop, hrow, hivs, hoo⟩ := hok.inner
      have c1 := cell_of_block hok.hR 1
      simp at c1
      have hsz : (0 : Int) < ((os.length + 1 : Nat) : Int) := by omega
      have HOKR := hide hok.hR
      have HINN := hide (fun w' hq => innermost_any R g (os.length + 1) cap fv w' hq (by omega) hcc1 hcc2)
      clear hok hop hrow hivs hoo
      go_wp2_with fail
      refine (HINN.out _ HOKR.out).mono ?_
      rintro e w1 ⟨rfl, nq, rfl⟩
      simp only [Nat.add_sub_cancel]
      go_wp2_with fail
      have hos : os.length ≤ 19 := by simp at hol; omega
      have hb1 : ∀ q, Below wr.heap.size wr ((wr.alloc (.cells #[.iface 134 (.string ⟨#[113, 117, 111, 116, 101]⟩), .iface t1 x1] 81)).drewN q) := fun q => Upd.below (((Upd.refl (fun _ => False) wr).alloc _).drewN q) (Nat.le_refl _) (fun _ h => h.elim)
      refine (ilist_any (20 - os.length) [.iface 134 (.string ⟨#[113, 117, 111, 116, 101]⟩), .iface t1 x1] [sym qsym, d1] _ _ B (by exact row_two_i (by omega) (heap_alloc_new wr _)) ?_ (by simp)).mono ?_
      · refine ⟨?_, ?_, trivial⟩
        · rw [show 20 - os.length = (19 - os.length) + 1 from by omega]; rfl
        · have := HIV.out
          rw [show 21 - ((true, ds) :: os : List (Bool × List D)).length = 20 - os.length from by simp only [List.length_cons]; omega] at this
          exact IV.keep (Keep.of_below (hb1 _)) _ _ _ this
      rintro e w2 ⟨u2, rfl, hiv2, hb2⟩
      obtain ⟨t2, x2, rfl⟩ := IV.form _ _ _ hiv2
      have hbw2 : Below wr.heap.size wr w2 := (hb1 _).trans (hb2.mono (by simp))
      have hok2 := HOK.out.below hbw2
      have HOK2 := hide hok2
      have HIV2 := hide hiv2
      have HBW2 := hide hbw2
      clear hiv2 hb2 hbw2 hok2
      go_wp2_with fail
      refine (leave_any R g (os.length + 1) cap fv _ HOK2.out.hR (by omega) hcc1 hcc2).mono ?_
      rintro e w3 ⟨rfl, hR3, hU3⟩
      rw [Nat.add_sub_cancel] at hR3
      have hok3 := leave_ok HOK2.out hil hR3 hU3
      have hk3 : Keep 205 w2 w3 := Keep.of_upd hU3 (by intro k c hx; subst hx; rw [HOK2.out.hR]; simp [rdr])
      have HOK3 := hide hok3
      have HK3 := hide hk3
      have HU3 := hide hU3
      have HR3 := hide hR3
      clear hok3 hk3 hU3 hR3
      go_wp2
      go_roundw
      case rel =>
        refine ⟨os, lst [sym qsym, d1], _, is', by rw [← HADD.out]; rfl, HOK3.out, ?_, ?_, by simp at hol; omega, by simp [cntS] at hcn ⊢; omega⟩
        · have := IV.keep HK3.out _ _ _ HIV2.out
          rw [show 20 - os.length + 1 = 21 - os.length from by omega] at this
          exact this
        · exact (HUP.out.trans (UpdR.of_below HBW2.out)).trans (UpdR.of_upd HU3.out (fun k hk => ⟨Or.inl hk, cellsR HOK2.out.hR hk⟩))
      case measure =>
        rw [openLen_of HOKR.out, openLen_of HR3.out]
        simp [lenOf]
    | (false, ds) :: os, hok =>
      obtain ⟨g, cap, is', v, vs, rfl, rfl, hil, hcc1, hcc2, hBg, hgl, cq, cv, fz, hop, hrow, hivs, hoo⟩ := hok.inner
      have c1 := cell_of_block hok.hR 1
      simp at c1
      have hsz : (0 : Int) < ((os.length + 1 : Nat) : Int) := by omega
      have hsz0 : (((os.length + 1 : Nat) : Int) == 0) = false := by rw [beq_eq_false_iff_ne]; omega
      have HOKR := hide hok.hR
      have HINN := hide (fun w' hq => innermost_any R g (os.length + 1) cap fv w' hq (by omega) hcc1 hcc2)
      have hvl := hivs.length
      have hcn' : cntS forms ((false, ds) :: os) ≤ 1000 := Nat.le_trans hcn hcnt
      have hvs : vs.length < 1000 := by rw [hvl]; simp only [cntS, List.map_cons, List.sum_cons] at hcn'; omega
      obtain ⟨a, capv, hvv, hv1, hv2, _⟩ := ownsRow_slice hrow
      have HROW := hide hrow
      obtain ⟨i0, hinf, hz0, hz1, hz2⟩ := info_parts infoVal
      have HI := hide (And.intro hinf (And.intro hz0 (And.intro hz1 hz2)))
      clear hinf hz0 hz1 hz2 hok hop hrow hivs hoo hvl
      go_wp2_with fail
      refine (HINN.out _ HOKR.out).mono ?_
      rintro e w1 ⟨rfl, nq, rfl⟩
      simp only [Nat.add_sub_cancel]
      go_wp2_with fail
      refine (HINN.out (wr.drewN nq) HOKR.out).mono ?_
      rintro e w1 ⟨rfl, nq2, rfl⟩
      simp only [Nat.add_sub_cancel]
      generalize hWd : (wr.drewN nq).drewN nq2 = wd
      have hud : Upd (fun _ => False) wr wd := by rw [← hWd]; exact ((Upd.refl _ wr).drewN nq).drewN nq2
      have hhd : wd.heap = wr.heap := by rw [← hWd]; rfl
      clear hWd
      have cv' : wd.cell? ⟨g, os.length * 2 + 1, none⟩ = some v := by rw [World.cell?_of_block (w := wr) (by rw [hhd])]; exact cv
      have HOKD : Hid (RdOk wd R B forms ((false, ds) :: os) fv (.slice (some ⟨g, 0, none⟩) (os.length + 1) cap) fs (is' ++ [(v, vs)])) := HOK.out.below (hud.below (Nat.le_refl _) (fun _ h => h.elim))
      have HROWD : Hid (RowI B wd v vs) := ownsRow_of_upd HROW.out hud (fun _ _ h => h)
      have hgd : g < wd.heap.size := by rw [hhd]; exact hgl
      have hBd : B ≤ wd.heap.size := by rw [hhd]; omega
      have hRd : R < wd.heap.size := by rw [hhd]; exact hRl
      have HUD := hide hud
      subst hvv
      clear hud hhd cv cq c1 fz
      go_wp2_with (at_builtin; refine wpList_append_lies _ rfl (.tmp 46) (.tmp 48) 76 rfl B 81 i0 .nilIface 1 16 Tryz.underlying76 HI.out.1 HI.out.2.1 HI.out.2.2.1 HI.out.2.2.2 rfl (by decide) _ vs.length vs rfl (HROWD.out.alloc _) ⟨wd.heap.size, 0, none⟩ 1 1 [.iface t1 x1] rfl rfl (cell_one_new _ _ _) (by intro u hu; simp at hu; subst hu; rfl) (by decide) (by unfold maxLen; omega) (by omega) (by simp; omega) (wd.heap.size + 1) (by simp) ?_)
      intro g' cap' w2 hown2 hgrow hat hlt2
      have hu2 := items_upd hgrow
      obtain ⟨gx, capx, isx, vx, vsx, ex, hvx, _, _, _, _, _, _, cvx, _, _, hrowx, _, hoox⟩ := HOKD.out.inner
      obtain ⟨rfl, ex2⟩ := List.append_inj' ex rfl
      cases ex2
      cases hvx
      have hoo2 := ownsRow_of_upd hoox hu2 (fun k hk hx => ownsRow_diff hoox hrowx (by decide) hk hx)
      have f2 := hoo2.frozenAt (os.length * 2 + 1)
      have c2 : w2.cell? ⟨g, os.length * 2 + 1, none⟩ = some (.slice a vs.length capv) := by
        rw [World.cell?_of_block (w := wd) (hu2.block g hgd (fun hx => ownsRow_diff hoox hrowx (by decide) (show Value.ownBlock _ = some g from rfl) hx))]; exact cvx
      have HO2 := hide hown2
      have HU2 := hide hu2
      have HAT : Hid ((Value.slice a vs.length capv).ownBlock = some g' ∨ wd.heap.size ≤ g') := hat.imp id (fun h => by omega)
      clear hown2 hgrow hu2 hoo2 hoox hrowx cvx cv' hat
      go_wp2
      go_end0
      refine ⟨rfl, ?_⟩
      obtain ⟨hok4, hup4⟩ := item_ok (d := d1) HOKD.out hil (by have := HIV.out; rw [show 21 - ((false, ds) :: os : List (Bool × List D)).length = 20 - os.length from by simp only [List.length_cons]; omega] at this; exact IV.keep (Keep.of_upd HUD.out (fun _ _ h => h.elim)) _ _ _ this) HU2.out HAT.out HO2.out _ rfl
      have hr : r = (forms, (false, ds ++ [d1]) :: os) := by rw [← HR.out, ← HADD.out]; rfl
      rw [hr]
      exact ⟨⟨_, _, _, _, hok4⟩, (HUP.out.trans (UpdR.of_upd HUD.out (fun _ h => h.elim))).trans hup4⟩

set_option maxRecDepth 100000 in
set_option maxHeartbeats 1000000 in
/-- close: a list's end, where one is open. -/
theorem close_any (w : World) (R B : Nat) (forms : List D) (opens : List (Bool × List D)) (fv ov : Value) (fs : List Value) (its : List (Value × List Value)) (h : RdOk w R B forms opens fv ov fs its) (hB : B ≤ w.heap.size) (h20 : opens.length ≤ 20) (hcnt : cntS forms opens ≤ 1000) :
    Calls Tryz.prog 85 #[.pointer (some ⟨R, 0, none⟩)] w fun e w' =>
      ((opens = [] ∨ ∃ ds os, opens = (true, ds) :: os) → e = .returned (.int .i64 2) ∧ Below w.heap.size w w') ∧
      (∀ ds os, opens = (false, ds) :: os → e = .returned (.int .i64 0) ∧ ∃ fv' ov' fs' its', RdOk w' R B (addS forms os (lst ds)).1 (addS forms os (lst ds)).2 fv' ov' fs' its' ∧ UpdR R B w w') := by
  have HH := hide h
  have hRB := h.hlt
  match opens, h with
  | [], h =>
    have hits0 : its = [] := by have := h.hits.length; cases its with | nil => rfl | cons a b => simp at this
    subst hits0
    obtain ⟨a, cap, hv, hc1, hc2, _⟩ := ownsRow_slice h.ho
    subst hv
    have c1 := cell_of_block h.hR 1
    simp at c1
    clear h
    go_enter Tryz.func85, Tryz.ntmps85
    go_wp2
    go_ret
    exact ⟨fun _ => ⟨rfl, Below.refl _ _⟩, fun ds os h => by cases h⟩
  | (true, ds) :: os, h =>
    obtain ⟨g, cap, is', v, vs, rfl, rfl, hil, hcc1, hcc2, hBg, hgl, cq, cv, fz, hop, hrow, hivs, hoo⟩ := h.inner
    have c1 := cell_of_block h.hR 1
    simp at c1
    have hsz0 : (((os.length + 1 : Nat) : Int) == 0) = false := by rw [beq_eq_false_iff_ne]; omega
    have HINN := hide (innermost_any R g (os.length + 1) cap fv w h.hR (by omega) hcc1 hcc2)
    clear h hop hrow hivs hoo
    go_enter Tryz.func85, Tryz.ntmps85
    go_wp2_with fail
    refine HINN.out.mono ?_
    rintro e w1 ⟨rfl, nq, rfl⟩
    simp only [Nat.add_sub_cancel]
    go_wp2
    go_ret
    exact ⟨fun _ => ⟨rfl, Upd.below ((Upd.refl (fun _ => False) w).drewN nq) (Nat.le_refl _) (fun _ h => h.elim)⟩, fun ds os h => by cases h⟩
  | (false, ds) :: os, h =>
    obtain ⟨g, cap, is', v, vs, rfl, rfl, hil, hcc1, hcc2, hBg, hgl, cq, cv, fz, hop, hrow, hivs, hoo⟩ := h.inner
    have c1 := cell_of_block h.hR 1
    simp at c1
    have hsz0 : (((os.length + 1 : Nat) : Int) == 0) = false := by rw [beq_eq_false_iff_ne]; omega
    have HINN := hide (fun w' hq => innermost_any R g (os.length + 1) cap fv w' hq (by omega) hcc1 hcc2)
    have HHR := hide h.hR
    have HROW := hide hrow
    have HIVS := hide hivs
    have hdl : ds.length ≤ 1000 := by simp only [cntS, List.map_cons, List.sum_cons] at hcnt; omega
    have hcn2 : cntS forms os ≤ 1000 := by simp only [cntS, List.map_cons, List.sum_cons] at hcnt ⊢; omega
    have hos : os.length ≤ 19 := by simp at h20; omega
    clear h hop hrow hivs hoo
    go_enter Tryz.func85, Tryz.ntmps85
    go_wp2_with fail
    refine (HINN.out w HHR.out).mono ?_
    rintro e w1 ⟨rfl, nq, rfl⟩
    simp only [Nat.add_sub_cancel]
    go_wp2_with fail
    refine (HINN.out (w.drewN nq) HHR.out).mono ?_
    rintro e w1 ⟨rfl, nq2, rfl⟩
    simp only [Nat.add_sub_cancel]
    generalize hWd : (w.drewN nq).drewN nq2 = wd
    have hud : Upd (fun _ => False) w wd := by rw [← hWd]; exact ((Upd.refl _ w).drewN nq).drewN nq2
    have hhd : wd.heap = w.heap := by rw [← hWd]; rfl
    clear hWd
    have cv' : wd.cell? ⟨g, os.length * 2 + 1, none⟩ = some v := by rw [World.cell?_of_block (w := w) (by rw [hhd])]; exact cv
    have hbd : Below w.heap.size w wd := hud.below (Nat.le_refl _) (fun _ h => h.elim)
    have HOKD := hide (HH.out.below hbd)
    have HBD := hide hbd
    have hBd : B ≤ wd.heap.size := by rw [hhd]; omega
    obtain ⟨av, capv, hvv, _, _, _⟩ := ownsRow_slice HROW.out
    have HVV := hide hvv
    rw [hvv] at cv'
    clear hud hhd cv cq c1 fz hvv hbd
    go_wp2_with fail
    have hvv := HVV.out
    rw [← hvv]
    refine (ilist_any (20 - os.length) vs ds v _ B (ownsRow_of_upd HROW.out (Upd.of_below (fun _ => False) HBD.out) (fun _ _ h => h)) (IVs.keep (Keep.of_below HBD.out) _ _ _ HIVS.out) hdl).mono ?_
    rintro e w2 ⟨u2, rfl, hiv2, hb2⟩
    obtain ⟨t2, x2, rfl⟩ := IV.form _ _ _ hiv2
    have hok2 := HOKD.out.below hb2
    have HOK2 := hide hok2
    have HIV2 := hide hiv2
    have HB2 := hide hb2
    clear hiv2 hb2 hok2 hvv cv'
    go_wp2_with fail
    refine (leave_any R g (os.length + 1) cap fv _ HOK2.out.hR (by omega) hcc1 hcc2).mono ?_
    rintro e w3 ⟨rfl, hR3, hU3⟩
    rw [Nat.add_sub_cancel] at hR3
    have hok3 := leave_ok HOK2.out hil hR3 hU3
    have hk3 : Keep 205 w2 w3 := Keep.of_upd hU3 (by intro k c hx; subst hx; rw [HOK2.out.hR]; simp [rdr])
    have hB3 : B ≤ w3.heap.size := by have := hU3.size; have := HB2.out.size; omega
    have HOK3 := hide hok3
    have HK3 := hide hk3
    have HU3 := hide hU3
    clear hok3 hk3 hU3 hR3
    go_wp2_with fail
    refine (add_any w3 R B forms os fv _ fs is' (lst ds) (.iface t2 x2) HOK3.out hB3 (by omega) hcn2 (by have := IV.keep HK3.out _ _ _ HIV2.out; rw [show 20 - os.length + 1 = 21 - os.length from by omega] at this; exact this) _ rfl).mono ?_
    rintro e w4 ⟨rfl, fv', ov', fs', its', hok4, hU4⟩
    have HOK4 := hide hok4
    have HU4 := hide hU4
    clear hok4 hU4
    go_wp2
    go_ret
    refine ⟨fun h => ?_, fun ds' os' h => ?_⟩
    · rcases h with h | ⟨_, _, h⟩ <;> cases h
    · cases h
      exact ⟨rfl, fv', ov', fs', its', HOK4.out, (((UpdR.of_below HBD.out).trans (UpdR.of_below HB2.out)).trans (UpdR.of_upd HU3.out (fun k hk => ⟨Or.inl hk, cellsR HOK2.out.hR hk⟩))).trans HU4.out⟩
end Go.Proofs.YtlobegpjenabaaaGreatDoor
