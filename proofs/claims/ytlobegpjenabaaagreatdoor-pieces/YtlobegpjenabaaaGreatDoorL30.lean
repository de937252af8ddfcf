/- display, as it walks. -/
import Derived.Test.YtlobegpjenabaaaGreatDoorL21
import Derived.Test.YtlobegpjenabaaaGreatDoorL18
import Derived.Deep.RegionLaw
import Derived.Test.YtlobegpjenabaaaGreatDoorL28
import Derived.Laws.Rows
import Derived.Test.YtlobegpjenabaaaGreatDoorL29
import Derived.Test.YtlobegpjenabaaaGreatDoorL24
namespace Go.Proofs.YtlobegpjenabaaaGreatDoor
open Go.RowKit
set_option linter.unusedSimpArgs false
set_option linter.unusedVariables false

theorem step_wp {P : Program} {ops : Array Oper} {o : Oper} {a : Act} {w : World} {K : Act → World → Prop} {Q : Exit → Act → World → Prop} {E : Prop} (hg : o.guard = none) (h : Oper.wp P o a w K Q) : if Region.wanted o (yielded ops a.tmps) = true then Oper.wp P o a w K Q else E := by
  have hw : Region.wanted o (yielded ops a.tmps) = true := by simp [Region.wanted, hg]
  rw [if_pos hw]; exact h
set_option maxRecDepth 100000 in
set_option maxHeartbeats 1000000 in
theorem display_full (w : World) (M gv off cap oc : Nat) (au : Option Addr) (k7 : w.cell? ⟨M, 7, none⟩ = some (.slice au 40 oc)) :
    Calls Tryz.prog 175 #[.pointer (some ⟨M, 0, none⟩), .slice (some ⟨gv, off, none⟩) 1 cap] w (RetW (wrongV 10) w) := by
  go_enter Tryz.func175, Tryz.ntmps175
  go_wp2
  go_ret
  exact ⟨rfl, rfl⟩
theorem GiveOk.move {w w9 : World} {M E gf : Nat} {n pc : Int} {old v2 : Value} {cM cE : Array Value} (h : GiveOk w M E gf n pc old v2) (hM : w.heap[M]? = some (Obj.cells cM 119 (0, 0))) (hM9 : w9.heap[M]? = some (Obj.cells cM 119 (0, 0))) (hE : w.heap[E]? = some (Obj.cells cE 115 (0, 0))) (hE9 : w9.heap[E]? = some (Obj.cells cE 115 (0, 0))) (v7 : Value) : GiveOk (w9.setCell ⟨M, 7, none⟩ v7) M E gf n pc old v2 := by
  have hm : ∀ o, o ≠ 7 → (w9.setCell ⟨M, 7, none⟩ v7).cell? ⟨M, o, none⟩ = w.cell? ⟨M, o, none⟩ := fun o ho => (World.cell?_setCell_other _ _ _ _ (by intro e; injection e with _ e; exact ho e.symm)).trans ((cell_of_block hM9 o).trans (cell_of_block hM o).symm)
  have he : ∀ o, (w9.setCell ⟨M, 7, none⟩ v7).cell? ⟨E, o, none⟩ = w.cell? ⟨E, o, none⟩ := fun o => (World.cell?_setCell_other _ _ _ _ (by intro e; injection e with e _; exact h.ne e.symm)).trans ((cell_of_block hE9 o).trans (cell_of_block hE o).symm)
  refine ⟨h.ne, by simp; exact lt_of_some hM9, by simp; exact lt_of_some hE9, (hm 6 (by decide)).trans h.k6, (hm 1 (by decide)).trans h.k1, (hm 2 (by decide)).trans h.k2, (hm 3 (by decide)).trans h.k3, fun o => ?_, (he 3).trans h.e3, (he 2).trans h.e2⟩
  rw [World.frozen?_setCell]; exact frozen_of_block hM9 o
/-- What display comes to: the output has grown, nothing is given. -/
def DispW (w : World) (B M gf : Nat) (nx : Int) (u : Value) (os : List Value) (tl : ByteArray) (e : Ending) (w' : World) : Prop :=
  ∃ w2 g cap, e = .returned .nilIface ∧ Upd (fun k => u.ownBlock = some k) w w2 ∧ (u.ownBlock = some g ∨ w.heap.size ≤ g) ∧ w2.ownsRow B 9 1 (.slice (some ⟨g, 0, none⟩) (os.length + 1) cap) (os.length + 1) (os ++ [.string tl]) ∧ w' = giveW (w2.setCell ⟨M, 7, none⟩ (.slice (some ⟨g, 0, none⟩) (os.length + 1) cap)) M gf nx (.iface 259 (.agg #[]))
set_option maxRecDepth 100000 in
set_option maxHeartbeats 2000000 in
theorem display_ok (w : World) (B M E gf gv off cap oc : Nat) (nx pc : Int) (old v2 : Value) (t : TypeId) (x : Value) (au : Option Addr) (os : List Value) (tl : ByteArray) (cM cE cV : Array Value) (hG : GiveOk w M E gf nx pc old v2) (hMb : w.heap[M]? = some (Obj.cells cM 119 (0, 0))) (hEb : w.heap[E]? = some (Obj.cells cE 115 (0, 0))) (hVb : w.heap[gv]? = some (Obj.cells cV 81 (0, 0)))
    (k7 : w.cell? ⟨M, 7, none⟩ = some (.slice au os.length oc)) (hown : w.ownsRow B 9 1 (.slice au os.length oc) os.length os) (hol : os.length < 40) (hgv : gv ≠ M) (a0 : w.cell? ⟨gv, off, none⟩ = some (.iface t x)) (hB : B ≤ w.heap.size)
    (HT : Hid (Calls Tryz.prog 198 #[.iface t x] w.drew fun e w' => e = .returned (.string tl) ∧ Below w.heap.size w w')) :
    Calls Tryz.prog 175 #[.pointer (some ⟨M, 0, none⟩), .slice (some ⟨gv, off, none⟩) 1 cap] w (DispW w B M gf nx (.slice au os.length oc) os tl) := by
  obtain ⟨i0, hi, hz0, hz1, hz2⟩ := info_parts infoStr
  have HI := hide (And.intro hi (And.intro hz0 (And.intro hz1 hz2)))
  have HO := hide hown
  have HG := hide hG
  have HMB := hide hMb
  have HEB := hide hEb
  have HVB := hide hVb
  have HBB := hide hB
  have hMl := lt_of_some hMb
  have hVl := lt_of_some hVb
  have hgv' : M ≠ gv := fun e => hgv e.symm
  have b40 : (((os.length : Nat) : Int) == 40) = false := by rw [beq_eq_false_iff_ne]; omega
  clear hi hz0 hz1 hz2 hown hG hMb hEb hVb
  go_enter Tryz.func175, Tryz.ntmps175
  go_wp2
  go_region_law (first | (refine step_wp rfl ?_; go_simp; go_at_call 198; refine HT.out.mono ?_; rintro e w1 ⟨rfl, hb⟩; have m7 : w1.cell? ⟨M, 7, none⟩ = some (.slice au os.length oc) := (hb.cell (p := ⟨M, 7, none⟩) hMl).trans k7; have mv : w1.cell? ⟨gv, off, none⟩ = some (.iface t x) := (hb.cell (p := ⟨gv, off, none⟩) hVl).trans a0; have hl1 : M < w1.heap.size := Nat.lt_of_lt_of_le hMl hb.size; have hl2 : gv < w1.heap.size := Nat.lt_of_lt_of_le hVl hb.size; have HB1 := hide hb; clear hb) | (refine step_append_lies _ rfl (.tmp 17) (.tmp 22) 26 rfl B 9 i0 (.string ⟨#[]⟩) 1 16 Tryz.underlying26 HI.out.1 HI.out.2.1 HI.out.2.2.1 HI.out.2.2.2 rfl (by decide) (.slice au os.length oc) os.length os (by simp [Act.eval, Act.put]) ((ownsRow_of_upd HO.out (Upd.of_below (fun _ => False) HB1.out) (fun _ _ h => h)).alloc _) ⟨w1.heap.size, 0, none⟩ 1 1 [.string tl] (by simp [Act.eval, Act.put]) rfl (World.news_of_block (heap_alloc_new _ _)) (by intro u hu; simp at hu; subst hu; rfl) (by decide) (by unfold maxLen; omega) (by omega) (by have := HBB.out; have := HB1.out.size; simp; omega) (w1.heap.size + 1) (by simp) ?_; intro g9 cap9 w9 hown9 hgrow9 hat9 hlt9; have HU9 := hide (show Upd (fun k => (Value.slice au os.length oc).ownBlock = some k) w w9 from Upd.grown (((Upd.of_below _ HB1.out).alloc _)) (by first | exact hgrow9 | exact hgrow9.drew) (fun k hk _ => hk)); have hV9 := keep_row HO.out HU9.out (T' := 81) (by decide) _ _ HVB.out; have mv9 : w9.cell? ⟨gv, off, none⟩ = some (.iface t x) := (cell_of_block hV9 off).trans ((cell_of_block HVB.out off).symm.trans a0); have hM9 := keep_row HO.out HU9.out (T' := 119) (by decide) _ _ HMB.out; have m79 : w9.cell? ⟨M, 7, none⟩ = some (.slice au os.length oc) := (cell_of_block hM9 7).trans ((cell_of_block HMB.out 7).symm.trans k7); have f79 := frozen_of_block hM9 7; have HM9 := hide hM9; have HO9 := hide hown9; have HA9 := hide hat9; clear hown9 hgrow9 hat9 hlt9 hV9 hM9))
  all_goals
    have hE9 := keep_row HO.out HU9.out (T' := 115) (by decide) _ _ HEB.out
    have HGV := hide (give_of (HG.out.move HMB.out HM9.out HEB.out hE9 (.slice (some ⟨g9, 0, none⟩) (os.length + 1) cap9)) 259 (.agg #[]))
    have HF := hide (show ∀ w', w' = giveW (w9.setCell ⟨M, 7, none⟩ (.slice (some ⟨g9, 0, none⟩) (os.length + 1) cap9)) M gf nx (.iface 259 (.agg #[])) → DispW w B M gf nx (.slice au os.length oc) os tl (.returned .nilIface) w' from fun w' hw => ⟨w9, g9, cap9, rfl, HU9.out, HA9.out.imp id (fun h => by have := HB1.out.size; omega), HO9.out, hw⟩)
    clear hE9 HU9 HA9 HO9 HM9 HB1 HO HG HMB HEB HVB
    go_wp2_with fail
    refine HGV.out.mono ?_
    rintro e w' ⟨rfl, hw⟩
    have HWW := hide hw
    clear hw
    go_wp2
    go_ret
    exact HF.out _ HWW.out
end Go.Proofs.YtlobegpjenabaaaGreatDoor

/- One step of the machine in memory, XII: display. -/
namespace Go.Proofs.YtlobegpjenabaaaGreatDoor
open Go.RowKit
set_option linter.unusedSimpArgs false
set_option linter.unusedVariables false

theorem disp_c : DispC := by
  intro B K w X ow mo mf M b C s val app args out top gf n pid g z0 a h hM hap happ hg ha hn
  obtain ⟨k0, k1, k2, k3, k4, k5, k6, k7, k8, k9, k10, k11⟩ := mc_cell hM
  have hA := h.app
  rw [hap] at hA
  obtain ⟨hp, xs, hxs, hrw⟩ := hA
  rw [happ] at k4
  obtain ⟨a1, x1, rfl, rfl, hx1⟩ := vxs_one hxs ha
  obtain ⟨gv, off, cap, c, rfl, hgv, c0⟩ := rw_one hrw
  have ngv : gv ≠ M := ne_types hgv hM (by decide)
  obtain ⟨t, y, rfl⟩ := hx1.form
  have g0 : w.cell? ⟨g, 0, none⟩ = some (.string z0) := by rw [cell_of_block hg]; rfl
  have g1 : w.cell? ⟨g, 1, none⟩ = some (.int .i64 (1 : Nat)) := by rw [cell_of_block hg]; rfl
  have g2 : w.cell? ⟨g, 2, none⟩ = some (.func (.func 175) #[ptrV M] #[]) := by rw [cell_of_block hg]; rfl
  obtain ⟨ho1, ho2, ho3⟩ := h.out
  obtain ⟨au, oc, hou, _, _, _⟩ := ownsRow_slice ho1
  subst hou
  have h2 := h.drew.drew
  by_cases h40 : s.out.length = 40
  · have he : firstS C { s with app := none } 12 [a1] = errS { s with app := none } 10 := by simp only [firstS]; rw [if_pos h40]
    rw [he] at hn ⊢
    rw [h40] at k7
    refine (apply_err_display w M g 1 cap 0 0 n 10 z0 _ k4 k5 g0 g1 g2 (hide (display_full w.drew.drew M gv off cap oc au k7))).mono ?_
    rintro e w' ⟨rfl, rfl⟩
    exact inside_step h hM 10 z0 _ ⟨2, rfl⟩ hn
  · have he : firstS C { s with app := none } 12 [a1] = giveS { s with app := none, out := s.out ++ [(toldS a1).take 100] } .nothing := by simp only [firstS]; rw [if_neg h40]
    rw [he] at hn ⊢
    obtain ⟨en, r, hs, hgs⟩ := giveS_ne _ _ hn
    have hs : s.st = en :: r := hs
    obtain ⟨E, gf0, hf0, hG⟩ := h2.giveOk hM en r hs
    have hst := h.st
    rw [hs] at hst
    obtain ⟨E', q', gf', got', hE', hEb, _⟩ := hst
    have hEE : E' = E := by
      have e1 := hG.k6
      have e2 : w.drew.drew.cell? ⟨M, 6, none⟩ = some (.pointer top) := k6
      rw [e2, hE'] at e1
      cases e1; rfl
    subst hEE
    have hol : (s.out.map strV).length = s.out.length := by simp
    have hT : Calls Tryz.prog 198 #[.iface t y] w.drew.drew.drew fun e w' => e = .returned (.string ⟨((toldS a1).take 100).toArray⟩) ∧ Below w.drew.drew.heap.size w.drew.drew w' :=
      (told_any a1 w.drew.drew.drew _ _ (VX.vr (w := w.drew.drew.drew) h.mlt a1 _ (VX.keep (show Keep _ w w.drew.drew.drew from fun _ _ hx => hx) (Le.refl _) _ _ hx1)) (h2.drew.tab.mono h.hBw)).mono fun e w' hh => ⟨hh.1, ((Below.refl w.drew.drew.heap.size w.drew.drew).drew).trans hh.2⟩
    have hDW := display_ok w.drew.drew B M E' gf0 gv off cap oc en.nx s.pc _ _ t y au (s.out.map strV) ⟨((toldS a1).take 100).toArray⟩ _ _ _ hG hM hEb hgv (by rw [hol]; exact k7) (by rw [hol]; exact ho1) (by rw [hol]; omega) ngv c0 h.hBw (hide hT)
    refine (apply_ok_display w M g 1 cap 0 0 0 0 n z0 _ (fun w' => DispW w.drew.drew B M gf0 en.nx (.slice au (s.out.map strV).length oc) (s.out.map strV) ⟨((toldS a1).take 100).toArray⟩ (.returned .nilIface) w') k4 k5 g0 g1 g2 (hide (hDW.mono fun e w' hh => ⟨by obtain ⟨_, _, _, e1, _⟩ := hh; exact e1, by obtain ⟨w2, g', c', e1, rest⟩ := hh; exact ⟨w2, g', c', rfl, rest⟩⟩))).mono ?_
    rintro e w' ⟨rfl, w2, g9, cap9, _, hu9, ha9, hown9, rfl⟩
    rw [hol] at hu9 ha9 hown9
    have hgs9 : ∃ c9, w2.heap[g9]? = some (Obj.cells c9 9 (0, 0)) := by
      rcases hown9.2 with ⟨e, _⟩ | ⟨g', c', cu, e, _, hh, _⟩
      · cases e
      · cases e; exact ⟨cu, hh⟩
    have hold : ∀ k, (Value.slice au s.out.length oc).ownBlock = some k → ow k = some 0 ∧ ∃ c, w.heap[k]? = some (Obj.cells c 9 (0, 0)) := fun k hk => by
      refine ⟨ho2 k hk, ?_⟩
      rcases ho1.2 with ⟨e, _⟩ | ⟨g', c', cu, e, _, hh, _⟩
      · rw [e] at hk; cases hk
      · rw [e] at hk; cases hk; exact ⟨cu, hh⟩
    have h9own : g9 < w.heap.size → ow g9 = some 0 := fun hlt => by
      rcases ha9 with e | e
      · exact (hold g9 e).1
      · have e : w.heap.size ≤ g9 := e; omega
    classical
    have hMne : ¬ (Value.slice au s.out.length oc).ownBlock = some M := fun e => by obtain ⟨c', hc'⟩ := (hold M e).2; exact ne_types hM hc' (by decide) rfl
    have hM2 : w2.heap[M]? = some (Obj.cells (mcC b s.pc val (ptrV gf) app (.slice (some ⟨gv, off, none⟩) 1 cap) (.pointer top) (.slice au s.out.length oc) 0 0 0 ⟨#[]⟩) 119 (0, 0)) := by
      rw [hu9.block M (lt_of_some hM) hMne]; exact hM
    have hM9 : M ≠ g9 := by obtain ⟨c9, hc9⟩ := hgs9; exact ne_types hM2 hc9 (by decide)
    have hkp : Keep 205 w.drew.drew w2 := Keep.of_upd hu9 fun k c' hk hc => by obtain ⟨c2, hc2⟩ := (hold k hk).2; exact ne_types hc hc2 (by decide) rfl
    have hgen := h2.gen (X' := fun k => (X k ∧ ¬ (Value.slice au s.out.length oc).ownBlock = some k) ∨ k = g9) (ow' := fun k => if k = g9 then some 0 else if (Value.slice au s.out.length oc).ownBlock = some k then none else ow k) hu9 (fun k hk => h.owx _ _ (hold k hk).1)
      (fun k hk hx => by
        have hk : k < w.heap.size := hk
        rcases hx with hx | hx
        · exact hx.1
        · subst hx; exact h.owx _ _ (h9own hk))
      (by show (if M = g9 then some 0 else if (Value.slice au s.out.length oc).ownBlock = some M then none else ow M) = some 0; rw [if_neg hM9, if_neg hMne]; exact h.owM)
      (fun k t' ht => by
        have ht : (if k = g9 then some 0 else if (Value.slice au s.out.length oc).ownBlock = some k then none else ow k) = some t' := ht
        by_cases e : k = g9
        · exact .inr e
        · rw [if_neg e] at ht
          by_cases e2 : (Value.slice au s.out.length oc).ownBlock = some k
          · rw [if_pos e2] at ht; cases ht
          · rw [if_neg e2] at ht; exact .inl ⟨h.owx _ _ ht, e2⟩)
      (fun k hx hk => by
        rcases hx with ⟨hx, hx2⟩ | hx
        · rcases hk with hk | hk
          · exact absurd hk hx2
          · have := h.xlt k hx; have hk : w.heap.size ≤ k := hk; omega
        · subst hx; obtain ⟨c9, hc9⟩ := hgs9; exact ⟨_, _, hc9, by decide⟩)
      none app (.slice (some ⟨gv, off, none⟩) 1 cap) trivial (s.out ++ [(toldS a1).take 100]) (.slice (some ⟨g9, 0, none⟩) (s.out.length + 1) cap9)
      (by
        refine ⟨?_, fun k hk => ?_, by simp; omega⟩
        · rw [List.map_append, List.length_append]; exact hown9
        · have : g9 = k := by simpa [Value.ownBlock] using hk
          subst this; exact if_pos rfl)
      s.frs rfl
      (fun j fr hj => by
        obtain ⟨g', pn, nv, vv, op, xs', h1, h3⟩ := h2.frs j fr hj
        refine ⟨g', pn, nv, vv, op, xs', h1, h3.keep hkp (Le.refl _) (Le.refl _) (fun k hk hw => ⟨?_, hu9.block k hk (fun e => by rw [(hold k e).1] at hw; cases hw)⟩) (fun k hk hnx => ⟨?_, hu9.block k hk (fun e => hnx (h.owx _ _ (hold k e).1))⟩)⟩
        · have hk : k < w.heap.size := hk
          show (if k = g9 then some 0 else if (Value.slice au s.out.length oc).ownBlock = some k then none else ow k) = _
          rw [if_neg (fun e => by subst e; rw [h9own hk] at hw; cases hw), if_neg (fun e => by rw [(hold k e).1] at hw; cases hw)]; exact hw
        · have hk : k < w.heap.size := hk
          rintro (hx | hx)
          · exact hnx hx.1
          · subst hx; exact hnx (h.owx _ _ (h9own hk)))
    have hu3 := setM w2 M 7 (.slice (some ⟨g9, 0, none⟩) (s.out.length + 1) cap9)
    have hM3 : (w2.setCell ⟨M, 7, none⟩ (.slice (some ⟨g9, 0, none⟩) (s.out.length + 1) cap9)).heap[M]? = some (Obj.cells (mcC b s.pc val (ptrV gf) app (.slice (some ⟨gv, off, none⟩) 1 cap) (.pointer top) (.slice (some ⟨g9, 0, none⟩) (s.out.length + 1) cap9) 0 0 0 ⟨#[]⟩) 119 (0, 0)) := (heap_setCell_same hM2).trans rfl
    have h4 := hgen.ext hM2 hu3 hM3
    obtain ⟨X', ow', hMR, hGw⟩ := h4.given hM3 en r hs gf0 hf0 .nothing _ _ rfl
    rw [hgs]
    rw [hol]
    refine ⟨rfl, X', ow', hMR, ((Gw.drew.trans Gw.drew).trans ⟨hu9.mono (fun k e => by rw [(hold k e).1]; simp), fun k hk hx ho => .inl ⟨hx, fun e => by rw [(hold k e).1] at ho; cases ho⟩, fun k hk hx => ?_, fun k hk ho => ?_⟩).trans ((hgen.gw hu3).trans hGw)⟩
    · have hk : k < w.heap.size := hk
      rcases hx with hx | hx
      · exact hx.1
      · subst hx; exact h.owx _ _ (h9own hk)
    · have hk : k < w.heap.size := hk
      show (if k = g9 then some 0 else if (Value.slice au s.out.length oc).ownBlock = some k then none else ow k) = none
      rw [if_neg (fun e => by subst e; rw [h9own hk] at ho; cases ho), if_neg (fun e => by rw [(hold k e).1] at ho; cases ho)]; exact ho
end Go.Proofs.YtlobegpjenabaaaGreatDoor

/- Run, where nothing fails; Look; Output. -/
namespace Go.Proofs.YtlobegpjenabaaaGreatDoor
open Go.RowKit
set_option linter.unusedSimpArgs false
set_option linter.unusedVariables false

set_option maxRecDepth 100000 in
set_option maxHeartbeats 1000000 in
theorem as_nil (t : Value) (w : World) : Calls Tryz.prog 50 #[.nilIface, t] w (RetW (.bool false) w) := by
  go_enter Tryz.func50, Tryz.ntmps50
  go_wp2
  go_ret
  exact ⟨rfl, rfl⟩
/-- Run, where goOn tells no failure. -/
def RunOk (P : World → Prop) (m : Nat) (e : Ending) (w' : World) : Prop := e = .returned (.tuple #[.int .i64 (m : Nat), .int .i64 0]) ∧ ∃ w1, P w1 ∧ Below w1.heap.size w1 w'
set_option maxRecDepth 100000 in
set_option maxHeartbeats 1000000 in
theorem run_nil (w : World) (M n m : Nat) (hn : n ≤ 100000) (P : World → Prop) (HG : Hid (Calls Tryz.prog 49 #[.pointer (some ⟨M, 0, none⟩), .int .i64 n] w fun e w' => e = .returned (.tuple #[.int .i64 (m : Nat), .nilIface]) ∧ P w')) :
    Calls Tryz.prog 37 #[.pointer (some ⟨M, 0, none⟩), .int .i64 n] w (RunOk P m) := by
  have h0 : ¬ ((n : Int) < 0) := by omega
  have h1 : ¬ ((100000 : Int) < (n : Int)) := by omega
  have HA := hide as_nil
  go_enter Tryz.func37, Tryz.ntmps37
  go_wp2_with fail
  refine HG.out.mono ?_
  rintro e w1 ⟨rfl, hP⟩
  have HP := hide hP
  clear hP
  go_wp2_with fail
  refine (HA.out _ _).mono ?_
  rintro e w2 ⟨rfl, rfl⟩
  go_wp2
  go_ret2
  exact ⟨rfl, w1, HP.out, (Below.refl _ _).alloc (Nat.le_refl _) _⟩
/-- The four cells of a look. -/
def lookV (st er de : Int) (va : ByteArray) : Value := .agg #[.int .i64 st, .int .i64 er, .int .i64 de, .string va]
def LookP (w : World) (st er de : Int) (va : ByteArray) (e : Ending) (w' : World) : Prop := e = .returned (lookV st er de va) ∧ Below w.heap.size w w'
set_option maxRecDepth 100000 in
set_option maxHeartbeats 1000000 in
theorem look_run (w : World) (M E : Nat) (d : Int) (hM : M < w.heap.size) (hE : E < w.heap.size) (k8 : w.cell? ⟨M, 8, none⟩ = some (.int .i64 0)) (k6 : w.cell? ⟨M, 6, none⟩ = some (.pointer (some ⟨E, 0, none⟩))) (e1 : w.cell? ⟨E, 1, none⟩ = some (.int .i64 d)) :
    Calls Tryz.prog 38 #[.pointer (some ⟨M, 0, none⟩)] w (LookP w 0 0 d ⟨#[]⟩) := by
  have HR := hide (fun o => running_raw (w.alloc o) M 0 ((World.cell?_alloc_past _ _ _ hM).trans k8))
  go_enter Tryz.func38, Tryz.ntmps38
  go_wp2_with fail
  refine (HR.out _).mono ?_
  rintro e w1 ⟨rfl, rfl⟩
  go_wp2
  refine bodyPost_ret (results_cell_row rfl _ _ w.heap.size 52 #[.int .i64 0, .int .i64 0, .int .i64 d, .string ⟨#[]⟩] (0, 0) _ rfl (heap_alloc_new _ _) Tryz.underlying52 rfl (by kernel_rfl)) rfl ?_
  exact ⟨rfl, (Below.refl _ _).alloc (Nat.le_refl _) _⟩
end Go.Proofs.YtlobegpjenabaaaGreatDoor

/- Look of a machine that has ended; Output. -/
namespace Go.Proofs.YtlobegpjenabaaaGreatDoor
open Go.RowKit
set_option linter.unusedSimpArgs false
set_option linter.unusedVariables false

set_option maxRecDepth 100000 in
set_option maxHeartbeats 1000000 in
theorem look_end (w : World) (M : Nat) (st er de : Int) (va : ByteArray) (hst : (st == 0) = false) (hM : M < w.heap.size) (k8 : w.cell? ⟨M, 8, none⟩ = some (.int .i64 st)) (k9 : w.cell? ⟨M, 9, none⟩ = some (.int .i64 er)) (k10 : w.cell? ⟨M, 10, none⟩ = some (.int .i64 de)) (k11 : w.cell? ⟨M, 11, none⟩ = some (.string va)) :
    Calls Tryz.prog 38 #[.pointer (some ⟨M, 0, none⟩)] w (LookP w st er de va) := by
  have HR : Hid (∀ o, Calls Tryz.prog 52 #[.pointer (some ⟨M, 0, none⟩)] (w.alloc o) (RetW (.bool false) (w.alloc o))) := by
    intro o
    have := running_raw (w.alloc o) M st ((World.cell?_alloc_past _ _ _ hM).trans k8)
    rw [hst] at this; exact this
  go_enter Tryz.func38, Tryz.ntmps38
  go_wp2_with fail
  refine (HR.out _).mono ?_
  rintro e w1 ⟨rfl, rfl⟩
  go_wp2
  refine bodyPost_ret (results_cell_row rfl _ _ w.heap.size 52 #[.int .i64 st, .int .i64 er, .int .i64 de, .string va] (0, 0) _ rfl (heap_alloc_new _ _) Tryz.underlying52 rfl (by kernel_rfl)) rfl ?_
  exact ⟨rfl, (Below.refl _ _).alloc (Nat.le_refl _) _⟩
/-- A new list of texts. -/
def OutP (w : World) (xs : List Value) (e : Ending) (w' : World) : Prop := ∃ v, e = .returned v ∧ w'.ownsRow w.heap.size 9 1 v xs.length xs ∧ Below w.heap.size w w'
/-- slices.Clone of texts. -/
theorem clone_go {w : World} {B : Nat} {u : Value} {o : List (List UInt8)} (h : w.ownsRow B 9 1 u o.length (o.map strV)) (hl : o.length ≤ 40) : Calls Tryz.prog 103 #[u] w (OutP w (o.map strV)) := by
  have hlen : (o.map strV).length = o.length := by simp
  rcases h.2 with ⟨rfl, h0⟩ | ⟨g, cap, cu, rfl, _, hh, h1, h2, h3, h4⟩
  · have ho : o = [] := List.eq_nil_of_length_eq_zero h0
    subst ho
    refine (Tryz.slices_Clone_string_nil 0 0 w).mono ?_
    rintro e w' ⟨rfl, rfl⟩
    exact ⟨_, rfl, World.ownsRow_nil _ _ _ _, Below.refl _ _⟩
  · have := Tryz.slices_Clone_string g 0 o.length cap (o.map fun s => (⟨s.toArray⟩ : ByteArray)) w (by simp) (by omega) (fun j hj => by
      rw [Nat.zero_add, cell_of_block hh, ← Array.getElem?_toList]
      have hj' : j < o.length := by simpa using hj
      have hx : (cu.toList.take (o.length * 1))[j]? = some (strV o[j]) := by rw [h4]; simp [hj']
      rw [List.getElem?_take, if_pos (by omega)] at hx
      rw [hx]
      simp [strV, hj'])
    refine this.mono ?_
    rintro e w' ⟨v, rfl, hv, _, hb⟩
    refine ⟨v, rfl, ?_, hb⟩
    rw [hlen]
    have he : ((o.map fun s => (⟨s.toArray⟩ : ByteArray)).take o.length).map Value.string = o.map strV := by
      rw [List.take_of_length_le (by simp), List.map_map]; rfl
    rw [he] at hv; exact hv
set_option maxRecDepth 100000 in
set_option maxHeartbeats 1000000 in
theorem output_go {w : World} {M B : Nat} {a : Option Addr} {n c : Nat} {o : List (List UInt8)} (k7 : w.cell? ⟨M, 7, none⟩ = some (.slice a n c)) (h : w.ownsRow B 9 1 (.slice a n c) o.length (o.map strV)) (hl : o.length ≤ 40) : Calls Tryz.prog 62 #[.pointer (some ⟨M, 0, none⟩)] w (OutP w (o.map strV)) := by
  have HC := hide (clone_go h hl)
  clear h
  go_enter Tryz.func62, Tryz.ntmps62
  go_wp2_with fail
  refine HC.out.mono ?_
  rintro e w1 ⟨v, rfl, hv, hb⟩
  rw [List.length_map] at hv
  have HV := hide (And.intro hv hb)
  obtain ⟨a1, c1, rfl, _, _, _⟩ := ownsRow_slice hv
  clear hv hb
  go_wp2
  go_ret
  exact ⟨_, rfl, by rw [List.length_map]; exact HV.out.1, HV.out.2⟩
end Go.Proofs.YtlobegpjenabaaaGreatDoor

/- Run of a machine in memory, where nothing fails. -/
namespace Go.Proofs.YtlobegpjenabaaaGreatDoor
open Go.RowKit
set_option linter.unusedSimpArgs false
set_option linter.unusedVariables false

theorem MR.below {B K : Nat} {w w' : World} {X : Nat → Prop} {ow : Nat → Option Nat} {M b : Nat} {C : Cd} {s : MS} (h : MR B K w X ow M b C s) (hb : Below w.heap.size w w') : MR B K w' X ow M b C s := by
  obtain ⟨mo, mf, val, app, args, out, top, gf, hM, hRS⟩ := h
  exact ⟨mo, mf, val, app, args, out, top, gf, by rw [hb.block M (lt_of_some hM)]; exact hM, hRS.below hM hb⟩
theorem ME.below {B : Nat} {w w' : World} {X : Nat → Prop} {ow : Nat → Option Nat} {M b : Nat} {st er de : Int} {va : List UInt8} {o : List (List UInt8)} (h : ME B w X ow M b st er de va o) (hb : Below w.heap.size w w') : ME B w' X ow M b st er de va o := by
  obtain ⟨out, hM, ho, hx, hxt, hm, ht⟩ := h
  have hBw : B ≤ w.heap.size := by have := (hxt M (hx M 0 hm)).1; have := lt_of_some hM; omega
  refine ⟨out, by rw [hb.block M (lt_of_some hM)]; exact hM, ho.keep (fun k c hk hc => ⟨hk, by rw [hb.block k (lt_of_some hc)]; exact hc⟩), hx, fun k hk => ?_, hm, ht.below (hb.mono hBw)⟩
  obtain ⟨h1, c, T, h2, h3⟩ := hxt k hk
  exact ⟨h1, c, T, by rw [hb.block k (lt_of_some h2)]; exact h2, h3⟩
theorem Gw.below {X X' : Nat → Prop} {ow ow' : Nat → Option Nat} {w w1 w2 : World} (h : Gw X ow w X' ow' w1) (hb : Below w1.heap.size w1 w2) : Gw X ow w X' ow' w2 := h.trans ⟨Upd.of_below _ hb, fun _ _ h _ => h, fun _ _ h => h, fun _ _ h => h⟩
/-- A run that does not fail, in memory. -/
def RunW (B K : Nat) (X : Nat → Prop) (ow : Nat → Option Nat) (w : World) (M b : Nat) (C : Cd) (w' : World) : RR → Prop
  | .run s' => ∃ X' ow', MR B K w' X' ow' M b C s' ∧ Gw X ow w X' ow' w'
  | .done t o => ∃ X' ow', ME B w' X' ow' M b 1 0 0 t o ∧ Gw X ow w X' ow' w'
  | .err _ _ _ => False
def RunP (B K : Nat) (X : Nat → Prop) (ow : Nat → Option Nat) (w : World) (M b : Nat) (C : Cd) (r : Nat × RR) (e : Ending) (w' : World) : Prop := e = .returned (.tuple #[.int .i64 (r.1 : Nat), .int .i64 0]) ∧ RunW B K X ow w M b C w' r.2
theorem run_go {B K : Nat} {w : World} {X : Nat → Prop} {ow : Nat → Option Nat} {M b : Nat} {C : Cd} {s : MS} (h : MR B K w X ow M b C s) (n fuel : Nat) (hn : n ≤ 100000) (m : Nat) (rr : RR) (hr : goS C fuel s n 0 = some (m, rr)) (hne : ∀ er d o, rr ≠ .err er d o) :
    Calls Tryz.prog 37 #[.pointer (some ⟨M, 0, none⟩), .int .i64 n] w (RunP B K X ow w M b C (m, rr)) := by
  have hg := goOn_go disp_c h n fuel hn (m, rr) hr
  refine (run_nil w M n m hn (fun w1 => RunW B K X ow w M b C w1 rr) (hide (hg.mono ?_))).mono ?_
  · rintro e w' ⟨ev, rfl, hR⟩
    cases rr with
    | run s' => obtain ⟨rfl, hR⟩ := hR; exact ⟨rfl, hR⟩
    | done t o => obtain ⟨rfl, hR⟩ := hR; exact ⟨rfl, hR⟩
    | err er d o => exact absurd rfl (hne er d o)
  · rintro e w' ⟨rfl, w1, hR, hb⟩
    refine ⟨rfl, ?_⟩
    cases rr with
    | run s' => obtain ⟨X', ow', h1, h2⟩ := hR; exact ⟨X', ow', h1.below hb, h2.below hb⟩
    | done t o => obtain ⟨X', ow', h1, h2⟩ := hR; exact ⟨X', ow', h1.below hb, h2.below hb⟩
    | err er d o => exact absurd rfl (hne er d o)
end Go.Proofs.YtlobegpjenabaaaGreatDoor

/- Package lathe: Start, Run, Look, Output. -/
namespace Go.Proofs.YtlobegpjenabaaaGreatDoor
open Go.RowKit
set_option linter.unusedSimpArgs false
set_option linter.unusedVariables false

/-- A lathe.Machine in block L, of the machine in block M. -/
def LM (w : World) (L M : Nat) : Prop := w.heap[L]? = some (Obj.cells #[ptrV M] 75 (0, 0))
def StartPost (w : World) (B b : Nat) (X0 : Nat → Prop) (C : Cd) (e : Ending) (w' : World) : Prop := ∃ L X ow, e = .returned (.pointer (some ⟨L, 0, none⟩)) ∧ w.heap.size ≤ L ∧ LM w' L w.heap.size ∧ MR B w.heap.size w' X ow w.heap.size b C (startS C) ∧ Gw X0 (fun _ => none) w X ow w'
set_option maxRecDepth 100000 in
set_option maxHeartbeats 1000000 in
theorem start_go (w : World) (B b Cb : Nat) (X0 : Nat → Prop) (C : Cd) (hC : w.heap[Cb]? = some (Obj.cells #[.pointer (some ⟨b, 0, none⟩)] 89 (0, 0))) (hc : Code w.heap.size w X0 b C) (hx : XTy w B X0) (ht : Tab B w) (hB : B ≤ w.heap.size) :
    Calls Tryz.prog 30 #[.pointer (some ⟨Cb, 0, none⟩)] w (StartPost w B b X0 C) := by
  have c0 := cell_of_block hC 0
  simp only [List.getElem?_toArray, List.getElem?_cons_zero] at c0
  have HN : Hid (Calls Tryz.prog 42 #[.pointer (some ⟨b, 0, none⟩)] w (NewPost w w.heap.size b C)) := by
    obtain ⟨c, u0, u1, u2, u3, x1, x3, h⟩ := hc
    exact new_go w w.heap.size b C u2 (lt_of_some h.hS) (by rw [cell_of_block h.hS]; exact h.c2) h.r2.1 h.ln
  have HP := hide (fun (w2 : World) (hp : OutPost (w.alloc (mc0 b)) w.heap.size w.heap.size C (.returned (.pointer (some ⟨w.heap.size + 1, 0, none⟩))) w2) => new_mr hc hx ht hB hp)
  clear hC hc hx ht
  go_enter Tryz.func30, Tryz.ntmps30
  go_wp2_with fail
  refine HN.out.mono ?_
  rintro e w1 ⟨rfl, w2, hp, hw1⟩
  have H1 := HP.out w2 hp
  rw [← hw1] at H1
  have H2 := hide H1
  clear hp hw1 HP HN H1
  go_wp2
  go_ret
  obtain ⟨X, ow, h1, h2⟩ := H2.out
  have hs := h2.upd.size
  exact ⟨w1.heap.size, X, ow, rfl, hs, Array.getElem?_push_size, h1.below ((Below.refl _ _).alloc (Nat.le_refl _) _), h2.below ((Below.refl _ _).alloc (Nat.le_refl _) _)⟩

/-- Run, Look and Output of a lathe.Machine are those of its machine. -/
def TupP (P : Value → Value → World → Prop) (e : Ending) (w' : World) : Prop := ∃ a b, e = .returned (.tuple #[a, b]) ∧ P a b w'
set_option maxRecDepth 100000 in
set_option maxHeartbeats 1000000 in
theorem lrun_go (w : World) (L M : Nat) (n : Int) (P : Value → Value → World → Prop) (hL : LM w L M) (H : Hid (Calls Tryz.prog 37 #[.pointer (some ⟨M, 0, none⟩), .int .i64 n] w (TupP P))) :
    Calls Tryz.prog 27 #[.pointer (some ⟨L, 0, none⟩), .int .i64 n] w (TupP P) := by
  have c0 := cell_of_block hL 0
  simp only [List.getElem?_toArray, List.getElem?_cons_zero] at c0
  unfold ptrV at c0
  clear hL
  go_enter Tryz.func27, Tryz.ntmps27
  go_wp2_with fail
  refine H.out.mono ?_
  rintro e w1 ⟨a, b, rfl, hP⟩
  have HP := hide hP
  clear hP H
  go_wp2
  go_ret2
  exact ⟨a, b, rfl, HP.out⟩
set_option maxRecDepth 100000 in
set_option maxHeartbeats 1000000 in
theorem llook_go (w : World) (L M : Nat) (st er de : Int) (va : ByteArray) (hL : LM w L M) (H : Hid (∀ o, Calls Tryz.prog 38 #[.pointer (some ⟨M, 0, none⟩)] (w.alloc o) (LookP (w.alloc o) st er de va))) :
    Calls Tryz.prog 28 #[.pointer (some ⟨L, 0, none⟩)] w (LookP w st er de va) := by
  have c0 := cell_of_block hL 0
  simp only [List.getElem?_toArray, List.getElem?_cons_zero] at c0
  unfold ptrV at c0
  have hLl := lt_of_some hL
  clear hL
  go_enter Tryz.func28, Tryz.ntmps28
  go_wp2_with fail
  refine (H.out _).mono ?_
  rintro e w1 ⟨he, hb⟩
  unfold lookV at he
  subst he
  have hs := hb.size
  have hh := (hb.block w.heap.size (by simp)).trans Array.getElem?_push_size
  have e0 := cell_of_block hh 0
  have e1 := cell_of_block hh 1
  have e2 := cell_of_block hh 2
  have e3 := cell_of_block hh 3
  have f0 := frozen_of_block hh 0
  have f1 := frozen_of_block hh 1
  have f2 := frozen_of_block hh 2
  have f3 := frozen_of_block hh 3
  simp only [List.getElem?_toArray, List.getElem?_cons_zero, List.getElem?_cons_succ] at e0 e1 e2 e3
  have HH := hide hh
  have HB := hide hb
  clear hh hb H
  go_wp2
  refine bodyPost_ret (results_cell_row rfl _ _ w.heap.size 52 #[.int .i64 st, .int .i64 er, .int .i64 de, .string va] (0, 0) _ rfl (heap_setCell_same (heap_setCell_same (heap_setCell_same (heap_setCell_same HH.out)))) Tryz.underlying52 rfl (by kernel_rfl)) rfl ?_
  have hb1 : Below w.heap.size w w1 := ((Below.refl _ w).alloc (Nat.le_refl _) _).trans (HB.out.mono (by simp))
  exact ⟨rfl, (((hb1.setCell (Nat.le_refl _) _).setCell (Nat.le_refl _) _).setCell (Nat.le_refl _) _).setCell (Nat.le_refl _) _⟩
set_option maxRecDepth 100000 in
set_option maxHeartbeats 1000000 in
theorem lout_go (w : World) (L M : Nat) (xs : List Value) (hL : LM w L M) (H : Hid (Calls Tryz.prog 62 #[.pointer (some ⟨M, 0, none⟩)] w (OutP w xs))) :
    Calls Tryz.prog 43 #[.pointer (some ⟨L, 0, none⟩)] w (OutP w xs) := by
  have c0 := cell_of_block hL 0
  simp only [List.getElem?_toArray, List.getElem?_cons_zero] at c0
  unfold ptrV at c0
  clear hL
  go_enter Tryz.func43, Tryz.ntmps43
  go_wp2_with fail
  refine H.out.mono ?_
  rintro e w1 ⟨v, rfl, hv, hb⟩
  have HP := hide (And.intro hv hb)
  obtain ⟨a, cap, rfl, _, _, _⟩ := ownsRow_slice hv
  clear hv hb H
  go_wp2
  go_ret
  exact ⟨_, rfl, HP.out.1, HP.out.2⟩
end Go.Proofs.YtlobegpjenabaaaGreatDoor
