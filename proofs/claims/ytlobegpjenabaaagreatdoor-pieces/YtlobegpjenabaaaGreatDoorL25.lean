/- The kinds of instructions, as they walk, XI: ready, halt. -/
import Derived.Test.YtlobegpjenabaaaGreatDoorL21
import Derived.Test.YtlobegpjenabaaaGreatDoorL23
import Derived.Test.YtlobegpjenabaaaGreatDoorL18
import Derived.Test.YtlobegpjenabaaaGreatDoorL01
namespace Go.Proofs.YtlobegpjenabaaaGreatDoor
open Go.RowKit
set_option linter.unusedSimpArgs false
set_option linter.unusedVariables false

/-- An application is to be made: of p, to the values from the second on. -/
def ReadyW (w : World) (M : Nat) (q : Option Addr) (p : Value) (rs : List Value) (e : Ending) (w' : World) : Prop :=
  ∃ w2 g, e = .returned .nilIface ∧ w' = (((w2.setCell ⟨M, 4, none⟩ p).setCell ⟨M, 5, none⟩ (.slice (some ⟨g, if rs.length = 0 then 0 else 1, none⟩) rs.length rs.length)).setCell ⟨M, 6, none⟩ (.pointer q)).drew ∧ Below w.heap.size w w2 ∧ w.heap.size ≤ g ∧ w2.heap[g]? = some (Obj.cells (p :: rs).toArray 81 (0, 0))
set_option maxRecDepth 100000 in
set_option maxHeartbeats 2000000 in
theorem ready_zero (m : Nat) (w : World) (M E : Nat) (n : Int) (below frame got : Option Addr) (depth at0 : Int) (t tp : TypeId) (x xp v4 v5 : Value) (l rs : List Value) (hll : l.length ≤ 1000000) (hM : M < w.heap.size) (hEM : E ≠ M) (k6 : w.cell? ⟨M, 6, none⟩ = some (.pointer (some ⟨E, 0, none⟩))) (k4 : w.cell? ⟨M, 4, none⟩ = some v4) (k5 : w.cell? ⟨M, 5, none⟩ = some v5) (hf : ∀ o, w.frozen? ⟨M, o, none⟩ = false) (k2 : w.cell? ⟨M, 2, none⟩ = some (.iface t x)) (hE : w.heap[E]? = some (Obj.cells (enC below depth frame at0 got) 115 (0, 0))) (hl : ItR w got l) (hone : ∀ y ∈ l, ∃ t z, y = Value.iface t z)
    (hr : (.iface t x :: l).reverse = .iface tp xp :: rs) (hal2 : rs.length = 0) :
    Calls Tryz.prog 127 #[.pointer (some ⟨M, 0, none⟩), .int .i64 n] w (ReadyW w M below (.iface tp xp) rs) := by
  have HW := hide (with_any w.drew E below frame got depth at0 t x l hll hE (ItR.keep (show Keep _ w w.drew from fun _ _ h => h) _ _ hl))
  have HONE := hide hone
  have HR := hide hr
  have HLL := hide hll
  have hal : rs.length = l.length := by have := congrArg List.length hr; simp at this; omega
  have HE := hide hE
  have HF := hide hf
  have HK4 := hide k4
  have HK5 := hide k5
  have hel := lt_of_some hE
  have HAL := hide hal2
  have hal3 : 0 ≤ 1000000 := by omega
  have HL2 := hide (show (Value.iface t x :: l).length = 0 + 1 by rw [← hal2, hal]; rfl)
  have HP : Hid (∀ w2 g, Below w.heap.size w w2 → w.heap.size ≤ g → w2.heap[g]? = some (Obj.cells (.iface tp xp :: rs).toArray 81 (0, 0)) → ReadyW w M below (.iface tp xp) rs (.returned .nilIface) ((((w2.setCell ⟨M, 4, none⟩ (.iface tp xp)).setCell ⟨M, 5, none⟩ (.slice (some ⟨g, 0, none⟩) (0) (0))).setCell ⟨M, 6, none⟩ (.pointer below)).drew)) := by
    intro w2 g h1 h2 h3
    exact ⟨w2, g, rfl, by rw [HAL.out]; rfl, h1, h2, h3⟩
  have i0 : (0 : Int) < (m : Int) + 1 + 1 := by omega
  have i1 : (1 : Int) ≤ (m : Int) + 1 + 1 := by omega
  clear hE hl hone hr hll hal hal2 hf k4 k5
  go_enter Tryz.func127, Tryz.ntmps127
  go_wp2_with fail
  go_region_with (first | (go_at_call 194; refine HW.out.mono ?_; rintro e w1 ⟨q, ⟨g, rfl, hg, hc, hb⟩, hi⟩; have HQ := hide (And.intro hg (And.intro hc (And.intro hb hi))); clear hg hc hb hi) | (go_at_call 196; obtain ⟨g3, q3, hq0, hg3, hq3⟩ := HQ.out.2.2.2; refine (values_go _ _ g3 below frame q3 depth at0 _ l HLL.out (fun y hy => by rcases List.mem_cons.1 hy with e | e; exact ⟨_, _, e⟩; exact HONE.out y e) (by have := HQ.out.2.1; rw [hq0] at this; exact this) hg3 hq3).mono ?_; rintro e w2 ⟨g2, rfl, ho2, hb2⟩; rw [HL2.out] at *; have HV := hide (And.intro ho2 hb2); clear ho2 hb2 hg3 hq3 hq0))
  all_goals
    have hb12 : Below w.heap.size w w2 := ((Below.refl w.heap.size w).drew).trans (HQ.out.2.2.1.trans (HV.out.2.mono HQ.out.2.2.1.size))
    have hrow : w2.heap[g2]? = some (Obj.cells (.iface tp xp :: rs).toArray 81 (0, 0)) := by
      obtain ⟨hx, hx2⟩ := HV.out.1
      rcases hx2 with ⟨hx3, _⟩ | ⟨g9, cap9, cu9, hv9, hb9, hg9, h19, h29, h39, h49⟩
      · cases hx3
      · cases hv9
        rw [hg9]
        congr 2
        rw [← HR.out]
        apply Array.toList_inj.1
        rw [← h49, List.take_of_length_le (by simp; omega)]
    have hgw : w.heap.size ≤ g2 := Nat.le_trans HQ.out.2.2.1.size (ownsRow_ge HV.out.1 rfl).1
    have a0 : w2.cell? ⟨g2, 0, none⟩ = some (.iface tp xp) := by rw [cell_of_block hrow]; rfl
    have m4 : w2.cell? ⟨M, 4, none⟩ = some v4 := by rw [hb12.cell (p := ⟨M, 4, none⟩) hM]; exact HK4.out
    have m5 : w2.cell? ⟨M, 5, none⟩ = some v5 := by rw [hb12.cell (p := ⟨M, 5, none⟩) hM]; exact HK5.out
    have m6 : w2.cell? ⟨M, 6, none⟩ = some (.pointer (some ⟨E, 0, none⟩)) := by rw [hb12.cell (p := ⟨M, 6, none⟩) hM]; exact k6
    have f4 : w2.frozen? ⟨M, 4, none⟩ = false := by rw [hb12.frozen (p := ⟨M, 4, none⟩) hM]; exact HF.out 4
    have f5 : w2.frozen? ⟨M, 5, none⟩ = false := by rw [hb12.frozen (p := ⟨M, 5, none⟩) hM]; exact HF.out 5
    have f6 : w2.frozen? ⟨M, 6, none⟩ = false := by rw [hb12.frozen (p := ⟨M, 6, none⟩) hM]; exact HF.out 6
    have e0 : w2.cell? ⟨E, 0, none⟩ = some (.pointer below) := by rw [hb12.cell (p := ⟨E, 0, none⟩) hel, cell_of_block HE.out]; rfl
    have e1 : ∀ a b, ((w2.setCell ⟨M, 4, none⟩ a).setCell ⟨M, 5, none⟩ b).cell? ⟨E, 0, none⟩ = some (.pointer below) := fun a b => by
      rw [World.cell?_setCell_other _ _ _ _ (by simp), World.cell?_setCell_other _ _ _ _ (by simp)]; exact e0
    have HX := hide (HP.out w2 g2 hb12 hgw hrow)
    clear hb12 hrow hgw HP HQ HV HR HONE HE HF HK4 HK5 HW
    go_wp2
    go_region
    all_goals
      go_wp2
      go_ret
      exact HX.out
set_option maxRecDepth 100000 in
set_option maxHeartbeats 2000000 in
theorem ready_pos (m : Nat) (w : World) (M E : Nat) (n : Int) (below frame got : Option Addr) (depth at0 : Int) (t tp : TypeId) (x xp v4 v5 : Value) (l rs : List Value) (hll : l.length ≤ 1000000) (hM : M < w.heap.size) (hEM : E ≠ M) (k6 : w.cell? ⟨M, 6, none⟩ = some (.pointer (some ⟨E, 0, none⟩))) (k4 : w.cell? ⟨M, 4, none⟩ = some v4) (k5 : w.cell? ⟨M, 5, none⟩ = some v5) (hf : ∀ o, w.frozen? ⟨M, o, none⟩ = false) (k2 : w.cell? ⟨M, 2, none⟩ = some (.iface t x)) (hE : w.heap[E]? = some (Obj.cells (enC below depth frame at0 got) 115 (0, 0))) (hl : ItR w got l) (hone : ∀ y ∈ l, ∃ t z, y = Value.iface t z)
    (hr : (.iface t x :: l).reverse = .iface tp xp :: rs) (hal2 : rs.length = m + 1) :
    Calls Tryz.prog 127 #[.pointer (some ⟨M, 0, none⟩), .int .i64 n] w (ReadyW w M below (.iface tp xp) rs) := by
  have HW := hide (with_any w.drew E below frame got depth at0 t x l hll hE (ItR.keep (show Keep _ w w.drew from fun _ _ h => h) _ _ hl))
  have HONE := hide hone
  have HR := hide hr
  have HLL := hide hll
  have hal : rs.length = l.length := by have := congrArg List.length hr; simp at this; omega
  have HE := hide hE
  have HF := hide hf
  have HK4 := hide k4
  have HK5 := hide k5
  have hel := lt_of_some hE
  have HAL := hide hal2
  have hal3 : m + 1 ≤ 1000000 := by omega
  have HL2 := hide (show (Value.iface t x :: l).length = m + 1 + 1 by rw [← hal2, hal]; rfl)
  have HP : Hid (∀ w2 g, Below w.heap.size w w2 → w.heap.size ≤ g → w2.heap[g]? = some (Obj.cells (.iface tp xp :: rs).toArray 81 (0, 0)) → ReadyW w M below (.iface tp xp) rs (.returned .nilIface) ((((w2.setCell ⟨M, 4, none⟩ (.iface tp xp)).setCell ⟨M, 5, none⟩ (.slice (some ⟨g, 1, none⟩) (m + 1) (m + 1))).setCell ⟨M, 6, none⟩ (.pointer below)).drew)) := by
    intro w2 g h1 h2 h3
    exact ⟨w2, g, rfl, by rw [HAL.out]; rfl, h1, h2, h3⟩
  have i0 : (0 : Int) < (m : Int) + 1 + 1 := by omega
  have i1 : (1 : Int) ≤ (m : Int) + 1 + 1 := by omega
  clear hE hl hone hr hll hal hal2 hf k4 k5
  go_enter Tryz.func127, Tryz.ntmps127
  go_wp2_with fail
  go_region_with (first | (go_at_call 194; refine HW.out.mono ?_; rintro e w1 ⟨q, ⟨g, rfl, hg, hc, hb⟩, hi⟩; have HQ := hide (And.intro hg (And.intro hc (And.intro hb hi))); clear hg hc hb hi) | (go_at_call 196; obtain ⟨g3, q3, hq0, hg3, hq3⟩ := HQ.out.2.2.2; refine (values_go _ _ g3 below frame q3 depth at0 _ l HLL.out (fun y hy => by rcases List.mem_cons.1 hy with e | e; exact ⟨_, _, e⟩; exact HONE.out y e) (by have := HQ.out.2.1; rw [hq0] at this; exact this) hg3 hq3).mono ?_; rintro e w2 ⟨g2, rfl, ho2, hb2⟩; rw [HL2.out] at *; have HV := hide (And.intro ho2 hb2); clear ho2 hb2 hg3 hq3 hq0))
  all_goals
    have hb12 : Below w.heap.size w w2 := ((Below.refl w.heap.size w).drew).trans (HQ.out.2.2.1.trans (HV.out.2.mono HQ.out.2.2.1.size))
    have hrow : w2.heap[g2]? = some (Obj.cells (.iface tp xp :: rs).toArray 81 (0, 0)) := by
      obtain ⟨hx, hx2⟩ := HV.out.1
      rcases hx2 with ⟨hx3, _⟩ | ⟨g9, cap9, cu9, hv9, hb9, hg9, h19, h29, h39, h49⟩
      · cases hx3
      · cases hv9
        rw [hg9]
        congr 2
        rw [← HR.out]
        apply Array.toList_inj.1
        rw [← h49, List.take_of_length_le (by simp; omega)]
    have hgw : w.heap.size ≤ g2 := Nat.le_trans HQ.out.2.2.1.size (ownsRow_ge HV.out.1 rfl).1
    have a0 : w2.cell? ⟨g2, 0, none⟩ = some (.iface tp xp) := by rw [cell_of_block hrow]; rfl
    have m4 : w2.cell? ⟨M, 4, none⟩ = some v4 := by rw [hb12.cell (p := ⟨M, 4, none⟩) hM]; exact HK4.out
    have m5 : w2.cell? ⟨M, 5, none⟩ = some v5 := by rw [hb12.cell (p := ⟨M, 5, none⟩) hM]; exact HK5.out
    have m6 : w2.cell? ⟨M, 6, none⟩ = some (.pointer (some ⟨E, 0, none⟩)) := by rw [hb12.cell (p := ⟨M, 6, none⟩) hM]; exact k6
    have f4 : w2.frozen? ⟨M, 4, none⟩ = false := by rw [hb12.frozen (p := ⟨M, 4, none⟩) hM]; exact HF.out 4
    have f5 : w2.frozen? ⟨M, 5, none⟩ = false := by rw [hb12.frozen (p := ⟨M, 5, none⟩) hM]; exact HF.out 5
    have f6 : w2.frozen? ⟨M, 6, none⟩ = false := by rw [hb12.frozen (p := ⟨M, 6, none⟩) hM]; exact HF.out 6
    have e0 : w2.cell? ⟨E, 0, none⟩ = some (.pointer below) := by rw [hb12.cell (p := ⟨E, 0, none⟩) hel, cell_of_block HE.out]; rfl
    have e1 : ∀ a b, ((w2.setCell ⟨M, 4, none⟩ a).setCell ⟨M, 5, none⟩ b).cell? ⟨E, 0, none⟩ = some (.pointer below) := fun a b => by
      rw [World.cell?_setCell_other _ _ _ _ (by simp), World.cell?_setCell_other _ _ _ _ (by simp)]; exact e0
    have HX := hide (HP.out w2 g2 hb12 hgw hrow)
    clear hb12 hrow hgw HP HQ HV HR HONE HE HF HK4 HK5 HW
    go_wp2
    go_region
    all_goals
      go_wp2
      go_ret
      exact HX.out
end Go.Proofs.YtlobegpjenabaaaGreatDoor

/- One step of the machine in memory, V: a lambda, ready. -/
namespace Go.Proofs.YtlobegpjenabaaaGreatDoor
open Go.RowKit
set_option linter.unusedSimpArgs false
set_option linter.unusedVariables false

theorem RS.xlt {B K : Nat} {w : World} {X : Nat → Prop} {ow mo mf : Nat → Option Nat} {M b : Nat} {C : Cd} {s : MS} {val app args out : Value} {top : Option Addr} {gf : Nat} (h : RS B K w X ow mo mf M b C s val app args out top gf) (k : Nat) (hk : X k) : k < w.heap.size := by obtain ⟨_, c, T, h1, _⟩ := h.xty k hk; exact lt_of_some h1
theorem lambda_step {B K : Nat} {w : World} {X : Nat → Prop} {ow mo mf : Nat → Option Nat} {M b : Nat} {C : Cd} {s : MS} {val app args out : Value} {top : Option Addr} {gf : Nat} (h : RS B K w X ow mo mf M b C s val app args out top gf) (hM : w.heap[M]? = some (Obj.cells (mcC b s.pc val (ptrV gf) app args (.pointer top) out 0 0 0 ⟨#[]⟩) 119 (0, 0))) (n : Int) (hn0 : 0 ≤ n) (hn : opS C s 3 n ≠ .bad) : Calls Tryz.prog 119 #[.pointer (some ⟨M, 0, none⟩), .int .i64 n] w (StepPost B K X ow w M b C (opS C s 3 n)) := by
  obtain ⟨k0, k1, k2, k3, k4, k5, k6, k7, k8, k9, k10, k11⟩ := mc_cell hM
  simp only [opS] at hn ⊢
  by_cases hlt : n.toNat < C.ls.length
  · rw [if_pos hlt]
    obtain ⟨c, u0, u1, u2, u3, x1, x3, hcd⟩ := h.code
    obtain ⟨l, hl⟩ : ∃ l, C.ls[n.toNat]? = some l := ⟨C.ls[n.toNat], by simp [hlt]⟩
    obtain ⟨la, lb', lc, ha, hb, hc, hL1⟩ := LX.get C.ls x3 n.toNat l hcd.l3 hl
    obtain ⟨hL1a, hL1b, hL1c, hL1d⟩ := hL1
    subst hL1a hL1c
    obtain ⟨g, cap, rfl, _, hglt, _, _, hcell⟩ := ownsRow_cell hcd.r3.1 (by omega)
    obtain ⟨ua, ucap, hub, hule, _, _⟩ := ownsRow_slice hL1b.1
    subst hub
    have b3 : w.cell? ⟨b, 3, none⟩ = some (.slice (some ⟨g, 0, none⟩) C.ls.length cap) := by rw [cell_of_block hcd.hS]; exact hcd.c3
    have := lambda_raw w M b g C.ls.length cap gf l.2.1.length ucap n.toNat ⟨l.1.toArray⟩ _ l.2.2 (lt_of_some hM) (lt_of_some hcd.hS) hglt k0 k2 (frozen_of_block hM 2) k3 b3 hlt hcd.ll ua (hcell _ _ ha) (hcell _ _ hb) (hcell _ _ hc)
    rw [Int.toNat_of_nonneg hn0] at this
    refine this.mono ?_
    rintro e w' ⟨g1, nb, lb, ob, mb, z', rfl, hg1, hnb, hbl, hMc, ho1, ho2, ho3, hsz, p1, p2, p3, p4, p5⟩
    have hu : Upd (fun k => k = M) w w' := ⟨ho1, ho2, ho3, hsz, fun k hk hne => hbl k hk hne⟩
    have hM' := (hMc _ hM).trans (show _ = some (Obj.cells (mcC b s.pc (.iface 216 (.pointer (some ⟨g1, 0, none⟩))) (ptrV gf) app args (.pointer top) out 0 0 0 ⟨#[]⟩) 119 (0, 0)) from rfl)
    have h' := h.ext hM hu hM'
    have hnX : ∀ k, w.heap.size ≤ k → ¬ X k := fun k hk hx => by have := h.xlt k hx; omega
    have hor : OR w' X 3 1 (.slice ua l.2.1.length ucap) l.2.1.length (intsV l.2.1) := hL1b.keep (fun k hk hnx => ⟨hnx, hbl k hk (fun e => by subst e; exact hnx (h.owx _ _ h.owM))⟩)
    have h2 := h'.obj g1 (lt_of_some p1) (fun i hi => by have := h.mlt i g1 hi; omega) ⟨_, _, p1, by decide⟩ (some (.clo n.toNat s.fr)) (fun p hp => by
      cases hp
      refine ⟨g1, z', _, upd1_at _ _ _, ?_, nb, lb, ob, mb, gf, z', l.1, .slice ua l.2.1.length ucap, l.2.1, l.2.2, rfl, p2, hnX _ hnb, p3, p4, p5, h'.fr, hl, hor, hL1d⟩
      rw [p1]
      simp [wantS, hl, ptrV])
    refine ⟨rfl, X, ow, ⟨_, _, _, _, _, _, _, _, hM', h2.regs _ _ app args top gf rfl rfl rfl ⟨by omega, g1, upd1_at _ _ _, rfl⟩ h2.fr h2.app h2.st⟩, h.gw hu⟩
  · rw [if_neg hlt] at hn; exact absurd rfl hn
/-- An application is to be made. -/
theorem ready_end {B K : Nat} {w : World} {X : Nat → Prop} {ow mo mf : Nat → Option Nat} {M b : Nat} {C : Cd} {s : MS} {val app args out : Value} {top : Option Addr} {gf : Nat} (h : RS B K w X ow mo mf M b C s val app args out top gf) (hM : w.heap[M]? = some (Obj.cells (mcC b s.pc val (ptrV gf) app args (.pointer top) out 0 0 0 ⟨#[]⟩) 119 (0, 0))) (en : En) (r : List En) (hs : s.st = en :: r) (q : Option Addr) (hq : StX w mo mf q r) (p : V) (a : List V) (tp : TypeId) (xp : Value) (rs : List Value) (hp : VX w mo p (.iface tp xp)) (ha : VXs w mo a rs) (hrl : rs.length ≤ 1000000) (e : Ending) (w' : World) (hw : ReadyW w M q (.iface tp xp) rs e w') :
    e = .returned .nilIface ∧ ∃ X' ow', MR B K w' X' ow' M b C { s with app := some (p, a), st := r } ∧ Gw X ow w X' ow' w' := by
  obtain ⟨w2, g, rfl, rfl, hb, hge, hg⟩ := hw
  have hMl := lt_of_some hM
  have hM2 : w2.heap[M]? = some (Obj.cells (mcC b s.pc val (ptrV gf) app args (.pointer top) out 0 0 0 ⟨#[]⟩) 119 (0, 0)) := by rw [hb.block M hMl]; exact hM
  have hu2 : Upd (fun k => k = M) w w2 := Upd.of_below _ hb
  have hu : Upd (fun k => k = M) w (((w2.setCell ⟨M, 4, none⟩ (.iface tp xp)).setCell ⟨M, 5, none⟩ (.slice (some ⟨g, if rs.length = 0 then 0 else 1, none⟩) rs.length rs.length)).setCell ⟨M, 6, none⟩ (.pointer q)).drew := (((hu2.setCell ⟨M, 4, none⟩ _ (fun _ => rfl)).setCell ⟨M, 5, none⟩ _ (fun _ => rfl)).setCell ⟨M, 6, none⟩ _ (fun _ => rfl)).drew
  have hM' : (((w2.setCell ⟨M, 4, none⟩ (.iface tp xp)).setCell ⟨M, 5, none⟩ (.slice (some ⟨g, if rs.length = 0 then 0 else 1, none⟩) rs.length rs.length)).setCell ⟨M, 6, none⟩ (.pointer q)).drew.heap[M]? = some (Obj.cells (mcC b s.pc val (ptrV gf) (.iface tp xp) (.slice (some ⟨g, if rs.length = 0 then 0 else 1, none⟩) rs.length rs.length) (.pointer q) out 0 0 0 ⟨#[]⟩) 119 (0, 0)) := (heap_setCell_same (heap_setCell_same (heap_setCell_same hM2))).trans rfl
  have hne : g ≠ M := by omega
  have hg' : (((w2.setCell ⟨M, 4, none⟩ (.iface tp xp)).setCell ⟨M, 5, none⟩ (.slice (some ⟨g, if rs.length = 0 then 0 else 1, none⟩) rs.length rs.length)).setCell ⟨M, 6, none⟩ (.pointer q)).drew.heap[g]? = some (Obj.cells (.iface tp xp :: rs).toArray 81 (0, 0)) := by
    rw [heap_drew_at, heap_set_ne _ _ _ _ _ hne, heap_set_ne _ _ _ _ _ hne, heap_set_ne _ _ _ _ _ hne]; exact hg
  have hog : ow g = none := by
    cases e : ow g with
    | none => rfl
    | some t => have := h.xlt g (h.owx _ _ e); omega
  have h' := h.ext' hM hu hM' (X' := fun k => X k ∨ k = g) (ow' := fun k => if k = g then some 0 else ow k) (fun k hk => .inl hk) (fun k hk hx => hx.elim id (fun e => by omega)) (fun k hk => if_neg (by omega)) (fun k t ht => by
      have ht : (if k = g then some 0 else ow k) = some t := ht
      by_cases e : k = g
      · exact .inr e
      · rw [if_neg e] at ht; exact .inl (h.owx _ _ ht)) (fun k hx hk => by
      rcases hx with hx | hx
      · have := h.xlt k hx; omega
      · subst hx; exact ⟨_, _, hg', by decide⟩)
  refine ⟨rfl, _, _, ⟨_, _, _, _, _, _, _, _, hM', h'.regs { s with app := some (p, a), st := r } val (.iface tp xp) _ q gf rfl rfl rfl h'.val h'.fr ⟨hp.keepM hM hu, rs, VXs.keep (Go.Proofs.YtlobegpjenabaaaGreatDoor.keepM hM hu (by decide)) (Le.refl _) _ _ ha, ?_⟩ (hq.keepM hM hu)⟩, ?_⟩
  · refine .inr ⟨g, _, rs.length, _, rfl, Nat.le_refl _, ?_, hg', ?_, .inr ⟨if_pos rfl, rfl⟩⟩
    · unfold maxLen; omega
    · by_cases h0 : rs.length = 0
      · rw [if_pos h0, h0]; simp [List.eq_nil_of_length_eq_zero h0]
      · rw [if_neg h0]; simp
  · exact ⟨hu.mono (fun k e => by subst e; rw [h.owM]; simp), fun k hk hx _ => .inl hx, fun k hk hx => hx.elim id (fun e => by omega), fun k hk ho => by show (if k = g then some 0 else ow k) = none; rw [if_neg (by omega)]; exact ho⟩
theorem ready_step {B K : Nat} {w : World} {X : Nat → Prop} {ow mo mf : Nat → Option Nat} {M b : Nat} {C : Cd} {s : MS} {val app args out : Value} {top : Option Addr} {gf : Nat} (h : RS B K w X ow mo mf M b C s val app args out top gf) (hM : w.heap[M]? = some (Obj.cells (mcC b s.pc val (ptrV gf) app args (.pointer top) out 0 0 0 ⟨#[]⟩) 119 (0, 0))) (n : Int) (hn : opS C s 11 n ≠ .bad) : Calls Tryz.prog 127 #[.pointer (some ⟨M, 0, none⟩), .int .i64 n] w (StepPost B K X ow w M b C (opS C s 11 n)) := by
  obtain ⟨k0, k1, k2, k3, k4, k5, k6, k7, k8, k9, k10, k11⟩ := mc_cell hM
  have hst := h.st
  have hv := h.val
  simp only [opS] at hn ⊢
  cases hs : s.st with
  | nil => rw [hs] at hn; exact absurd rfl hn
  | cons en r =>
    rw [hs] at hst hn
    cases hsv : s.val with
    | none => rw [hsv] at hn; exact absurd rfl hn
    | some v =>
      rw [hsv] at hv hn
      simp only [] at hn ⊢
      have hv : VX w mo v val := hv
      obtain ⟨t, x, rfl⟩ := hv.form
      obtain ⟨g, q, gf0, got, rfl, hg, hf0, ⟨xs, hi, hxs⟩, hgl, hrl, hr⟩ := hst
      have hrev := VXs.reverse (show VXs w mo (v :: en.got) (.iface t x :: xs) from ⟨hv, hxs⟩)
      cases hrv : (v :: en.got).reverse with
      | nil => rw [hrv] at hn; exact absurd rfl hn
      | cons p a =>
        simp only []
        rw [hrv] at hrev
        cases hrx : (Value.iface t x :: xs).reverse with
        | nil => rw [hrx] at hrev; exact hrev.elim
        | cons y rs =>
          rw [hrx] at hrev
          obtain ⟨hp, ha⟩ := hrev
          obtain ⟨tp, xp, rfl⟩ := hp.form
          have hxl : xs.length ≤ 1000000 := by rw [← hxs.length]; exact hgl
          have hne : g ≠ M := ne_types hg hM (by decide)
          have hrl3 : rs.length ≤ 1000000 := by have := congrArg List.length hrx; simp at this; omega
          have hfin := fun e w' hw => ready_end h hM en r hs q hr p a tp xp rs hp ha hrl3 e w' hw
          rw [hsv] at hfin
          cases hrl2 : rs.length with
          | zero => exact (ready_zero 0 w M g n q (some ⟨gf0, 0, none⟩) got r.length en.nx t tp x xp _ _ xs rs hxl (lt_of_some hM) hne k6 k4 k5 (fun o => frozen_of_block hM o) k2 hg hi (VXs.forms hxs) hrx hrl2).mono fun e w' hw => hfin e w' hw
          | succ m => exact (ready_pos m w M g n q (some ⟨gf0, 0, none⟩) got r.length en.nx t tp x xp _ _ xs rs hxl (lt_of_some hM) hne k6 k4 k5 (fun o => frozen_of_block hM o) k2 hg hi (VXs.forms hxs) hrx hrl2).mono fun e w' hw => hfin e w' hw
end Go.Proofs.YtlobegpjenabaaaGreatDoor

/- The kinds of instructions, as they walk, XII: eq? anew, halt, and applying. -/
namespace Go.Proofs.YtlobegpjenabaaaGreatDoor
open Go.RowKit
set_option linter.unusedSimpArgs false
set_option linter.unusedVariables false

set_option maxRecDepth 100000 in
set_option maxHeartbeats 1000000 in
theorem same_raw1 (w : World) (M : Nat) (t t' : TypeId) (x y : Value) (r : Bool) (hq : (Go.binOp .eql 81 (.iface t x) (.iface t' y)).run Tryz.prog w = .ok (.bool r) w) :
    Calls Tryz.prog 174 #[.pointer (some ⟨M, 0, none⟩), .iface t x, .iface t' y] w (RetW (.iface 131 (.bool r)) w) := by
  go_enter Tryz.func174, Tryz.ntmps174
  go_wp2
  go_ret
  exact ⟨rfl, rfl⟩
set_option maxRecDepth 100000 in
set_option maxHeartbeats 1000000 in
theorem do_same1 (w : World) (M E gf mb fb gv off cap : Nat) (n pc : Int) (old v2 : Value) (t t2 : TypeId) (x y : Value) (r : Bool) (h : GiveOk w M E gf n pc old v2) (m0 : w.cell? ⟨mb, 0, none⟩ = some (.pointer (some ⟨M, 0, none⟩))) (f0 : w.cell? ⟨fb, 0, none⟩ = some (.func (.func 174) #[.pointer (some ⟨M, 0, none⟩)] #[]))
    (hmb : mb ≠ M) (hfb : fb ≠ M) (hgv : gv ≠ M) (a0 : w.cell? ⟨gv, off, none⟩ = some (.iface t x)) (a1 : w.cell? ⟨gv, off + 1, none⟩ = some (.iface t2 y)) (hq : (Go.binOp .eql 81 (.iface t x) (.iface t2 y)).run Tryz.prog w.drew = .ok (.bool r) w.drew) :
    Calls Tryz.prog 213 #[.slice (some ⟨gv, off, none⟩) 2 cap, .pointer (some ⟨mb, 0, none⟩), .pointer (some ⟨fb, 0, none⟩)] w (RetW .nilIface (giveW w.drew M gf n (.iface 131 (.bool r)))) := by
  have HG := hide (give_of h.drew 131 (.bool r))
  have HK := hide (show (fun (wx : World) => wx.cell? ⟨mb, 0, none⟩ = some (.pointer (some ⟨M, 0, none⟩)) ∧ wx.cell? ⟨fb, 0, none⟩ = some (.func (.func 174) #[.pointer (some ⟨M, 0, none⟩)] #[]) ∧ wx.cell? ⟨gv, off, none⟩ = some (.iface t x) ∧ wx.cell? ⟨gv, off + 1, none⟩ = some (.iface t2 y)) (giveW w.drew M gf n (.iface 131 (.bool r))) from ⟨(giveW_cell _ M gf n _ mb 0 hmb).trans m0, (giveW_cell _ M gf n _ fb 0 hfb).trans f0, (giveW_cell _ M gf n _ gv _ hgv).trans a0, (giveW_cell _ M gf n _ gv _ hgv).trans a1⟩)
  have HF := hide (same_raw1 w.drew M t t2 x y r hq)
  clear h hq
  go_enter Tryz.func213, Tryz.ntmps213
  go_wp2
  go_region_held3 (fun wx => wx.cell? ⟨mb, 0, none⟩ = some (.pointer (some ⟨M, 0, none⟩)) ∧ wx.cell? ⟨fb, 0, none⟩ = some (.func (.func 174) #[.pointer (some ⟨M, 0, none⟩)] #[]) ∧ wx.cell? ⟨gv, off, none⟩ = some (.iface t x) ∧ wx.cell? ⟨gv, off + 1, none⟩ = some (.iface t2 y)) (first | go_keep | exact HK.out) (first | (go_at_call 174; refine HF.out.mono ?_; rintro e w' ⟨rfl, rfl⟩) | (go_at_call 212; refine HG.out.mono ?_; rintro e w' ⟨rfl, rfl⟩))
  all_goals (go_wp2; go_ret; exact ⟨rfl, rfl⟩)

/-- A procedure is applied: what its function comes to, wrapped if it fails. -/
def insideV (z : ByteArray) (v : Value) : Value := .iface 178 (.agg #[.string z, v])
set_option maxRecDepth 100000 in
set_option maxHeartbeats 1000000 in
theorem apply_none (w : World) (M : Nat) (n : Int) (t : TypeId) (x : Value) (k4 : w.cell? ⟨M, 4, none⟩ = some (.iface t x)) (hq : ∀ W, (Instr.typeAssert (.iface t x) 81 216 true).run Tryz.prog W = .ok (.tuple #[.pointer none, .bool false]) W) :
    Calls Tryz.prog 128 #[.pointer (some ⟨M, 0, none⟩), .int .i64 n] w (RetW (wrongV 6) w) := by
  go_enter Tryz.func128, Tryz.ntmps128
  go_wp2
  go_ret
  exact ⟨rfl, rfl⟩
theorem proc_is (k : Addr) (w : World) : (Instr.typeAssert (.iface 216 (.pointer (some k))) 81 216 true).run Tryz.prog w = .ok (.tuple #[.pointer (some k), .bool true]) w := by kernel_rfl
set_option maxRecDepth 100000 in
set_option maxHeartbeats 1000000 in
theorem apply_count (w : World) (M g cnt len cap : Nat) (n : Int) (z : ByteArray) (u : Option Addr) (k4 : w.cell? ⟨M, 4, none⟩ = some (.iface 216 (.pointer (some ⟨g, 0, none⟩)))) (k5 : w.cell? ⟨M, 5, none⟩ = some (.slice u len cap)) (g0 : w.cell? ⟨g, 0, none⟩ = some (.string z)) (g1 : w.cell? ⟨g, 1, none⟩ = some (.int .i64 cnt)) (hne : len ≠ cnt) :
    Calls Tryz.prog 128 #[.pointer (some ⟨M, 0, none⟩), .int .i64 n] w (RetW (insideV z (wrongV 7)) w.drew) := by
  have hp := proc_is
  have hb : ((len : Int) != (cnt : Int)) = true := by rw [bne_iff_ne]; omega
  go_enter Tryz.func128, Tryz.ntmps128
  go_wp2
  go_region
  go_wp2
  go_ret
  exact ⟨rfl, rfl⟩
set_option maxRecDepth 100000 in
set_option maxHeartbeats 1000000 in
theorem apply_ok_ofInts (w : World) (M g len cap x1 x2 x3 x4 : Nat) (n : Int) (z : ByteArray) (u : Option Addr) (P : World → Prop) (k4 : w.cell? ⟨M, 4, none⟩ = some (.iface 216 (.pointer (some ⟨g, 0, none⟩)))) (k5 : w.cell? ⟨M, 5, none⟩ = some (.slice u len cap)) (g0 : w.cell? ⟨g, 0, none⟩ = some (.string z)) (g1 : w.cell? ⟨g, 1, none⟩ = some (.int .i64 len)) (g2 : w.cell? ⟨g, 2, none⟩ = some (.func (.func 211) #[] #[.pointer (some ⟨x1, 0, none⟩), .pointer (some ⟨x2, 0, none⟩)]))
    (HD : Hid (Calls Tryz.prog 211 #[.slice u len cap, .pointer (some ⟨x1, 0, none⟩), .pointer (some ⟨x2, 0, none⟩)] w.drew.drew fun e w' => e = .returned .nilIface ∧ P w')) :
    Calls Tryz.prog 128 #[.pointer (some ⟨M, 0, none⟩), .int .i64 n] w fun e w' => e = .returned .nilIface ∧ P w' := by
  have hp := proc_is
  have hb : ((len : Int) != (len : Int)) = false := by simp
  go_enter Tryz.func128, Tryz.ntmps128
  go_wp2
  go_region
  go_wp2
  go_region_with (go_at_call 211; refine HD.out.mono ?_; rintro e w' ⟨rfl, hP⟩; have HPP := hide hP; clear hP)
  all_goals
    go_wp2
    go_ret
    exact ⟨rfl, HPP.out⟩
set_option maxRecDepth 100000 in
set_option maxHeartbeats 1000000 in
theorem apply_ok_ofPair (w : World) (M g len cap x1 x2 x3 x4 : Nat) (n : Int) (z : ByteArray) (u : Option Addr) (P : World → Prop) (k4 : w.cell? ⟨M, 4, none⟩ = some (.iface 216 (.pointer (some ⟨g, 0, none⟩)))) (k5 : w.cell? ⟨M, 5, none⟩ = some (.slice u len cap)) (g0 : w.cell? ⟨g, 0, none⟩ = some (.string z)) (g1 : w.cell? ⟨g, 1, none⟩ = some (.int .i64 len)) (g2 : w.cell? ⟨g, 2, none⟩ = some (.func (.func 214) #[] #[.pointer (some ⟨x1, 0, none⟩), .pointer (some ⟨x2, 0, none⟩)]))
    (HD : Hid (Calls Tryz.prog 214 #[.slice u len cap, .pointer (some ⟨x1, 0, none⟩), .pointer (some ⟨x2, 0, none⟩)] w.drew.drew fun e w' => e = .returned .nilIface ∧ P w')) :
    Calls Tryz.prog 128 #[.pointer (some ⟨M, 0, none⟩), .int .i64 n] w fun e w' => e = .returned .nilIface ∧ P w' := by
  have hp := proc_is
  have hb : ((len : Int) != (len : Int)) = false := by simp
  go_enter Tryz.func128, Tryz.ntmps128
  go_wp2
  go_region
  go_wp2
  go_region_with (go_at_call 214; refine HD.out.mono ?_; rintro e w' ⟨rfl, hP⟩; have HPP := hide hP; clear hP)
  all_goals
    go_wp2
    go_ret
    exact ⟨rfl, HPP.out⟩
set_option maxRecDepth 100000 in
set_option maxHeartbeats 1000000 in
theorem apply_ok_ofOne (w : World) (M g len cap x1 x2 x3 x4 : Nat) (n : Int) (z : ByteArray) (u : Option Addr) (P : World → Prop) (k4 : w.cell? ⟨M, 4, none⟩ = some (.iface 216 (.pointer (some ⟨g, 0, none⟩)))) (k5 : w.cell? ⟨M, 5, none⟩ = some (.slice u len cap)) (g0 : w.cell? ⟨g, 0, none⟩ = some (.string z)) (g1 : w.cell? ⟨g, 1, none⟩ = some (.int .i64 len)) (g2 : w.cell? ⟨g, 2, none⟩ = some (.func (.func 215) #[] #[.pointer (some ⟨x1, 0, none⟩), .pointer (some ⟨x2, 0, none⟩)]))
    (HD : Hid (Calls Tryz.prog 215 #[.slice u len cap, .pointer (some ⟨x1, 0, none⟩), .pointer (some ⟨x2, 0, none⟩)] w.drew.drew fun e w' => e = .returned .nilIface ∧ P w')) :
    Calls Tryz.prog 128 #[.pointer (some ⟨M, 0, none⟩), .int .i64 n] w fun e w' => e = .returned .nilIface ∧ P w' := by
  have hp := proc_is
  have hb : ((len : Int) != (len : Int)) = false := by simp
  go_enter Tryz.func128, Tryz.ntmps128
  go_wp2
  go_region
  go_wp2
  go_region_with (go_at_call 215; refine HD.out.mono ?_; rintro e w' ⟨rfl, hP⟩; have HPP := hide hP; clear hP)
  all_goals
    go_wp2
    go_ret
    exact ⟨rfl, HPP.out⟩
set_option maxRecDepth 100000 in
set_option maxHeartbeats 1000000 in
theorem apply_ok_ofTwo (w : World) (M g len cap x1 x2 x3 x4 : Nat) (n : Int) (z : ByteArray) (u : Option Addr) (P : World → Prop) (k4 : w.cell? ⟨M, 4, none⟩ = some (.iface 216 (.pointer (some ⟨g, 0, none⟩)))) (k5 : w.cell? ⟨M, 5, none⟩ = some (.slice u len cap)) (g0 : w.cell? ⟨g, 0, none⟩ = some (.string z)) (g1 : w.cell? ⟨g, 1, none⟩ = some (.int .i64 len)) (g2 : w.cell? ⟨g, 2, none⟩ = some (.func (.func 213) #[] #[.pointer (some ⟨x1, 0, none⟩), .pointer (some ⟨x2, 0, none⟩)]))
    (HD : Hid (Calls Tryz.prog 213 #[.slice u len cap, .pointer (some ⟨x1, 0, none⟩), .pointer (some ⟨x2, 0, none⟩)] w.drew.drew fun e w' => e = .returned .nilIface ∧ P w')) :
    Calls Tryz.prog 128 #[.pointer (some ⟨M, 0, none⟩), .int .i64 n] w fun e w' => e = .returned .nilIface ∧ P w' := by
  have hp := proc_is
  have hb : ((len : Int) != (len : Int)) = false := by simp
  go_enter Tryz.func128, Tryz.ntmps128
  go_wp2
  go_region
  go_wp2
  go_region_with (go_at_call 213; refine HD.out.mono ?_; rintro e w' ⟨rfl, hP⟩; have HPP := hide hP; clear hP)
  all_goals
    go_wp2
    go_ret
    exact ⟨rfl, HPP.out⟩
set_option maxRecDepth 100000 in
set_option maxHeartbeats 1000000 in
theorem apply_ok_toBeDone (w : World) (M g len cap x1 x2 x3 x4 : Nat) (n : Int) (z : ByteArray) (u : Option Addr) (P : World → Prop) (k4 : w.cell? ⟨M, 4, none⟩ = some (.iface 216 (.pointer (some ⟨g, 0, none⟩)))) (k5 : w.cell? ⟨M, 5, none⟩ = some (.slice u len cap)) (g0 : w.cell? ⟨g, 0, none⟩ = some (.string z)) (g1 : w.cell? ⟨g, 1, none⟩ = some (.int .i64 len)) (g2 : w.cell? ⟨g, 2, none⟩ = some (.func (.func 231) #[] #[.pointer (some ⟨x1, 0, none⟩), .pointer (some ⟨x2, 0, none⟩)]))
    (HD : Hid (Calls Tryz.prog 231 #[.slice u len cap, .pointer (some ⟨x1, 0, none⟩), .pointer (some ⟨x2, 0, none⟩)] w.drew.drew fun e w' => e = .returned .nilIface ∧ P w')) :
    Calls Tryz.prog 128 #[.pointer (some ⟨M, 0, none⟩), .int .i64 n] w fun e w' => e = .returned .nilIface ∧ P w' := by
  have hp := proc_is
  have hb : ((len : Int) != (len : Int)) = false := by simp
  go_enter Tryz.func128, Tryz.ntmps128
  go_wp2
  go_region
  go_wp2
  go_region_with (go_at_call 231; refine HD.out.mono ?_; rintro e w' ⟨rfl, hP⟩; have HPP := hide hP; clear hP)
  all_goals
    go_wp2
    go_ret
    exact ⟨rfl, HPP.out⟩
set_option maxRecDepth 100000 in
set_option maxHeartbeats 1000000 in
theorem apply_ok_lambda (w : World) (M g len cap x1 x2 x3 x4 : Nat) (n : Int) (z : ByteArray) (u : Option Addr) (P : World → Prop) (k4 : w.cell? ⟨M, 4, none⟩ = some (.iface 216 (.pointer (some ⟨g, 0, none⟩)))) (k5 : w.cell? ⟨M, 5, none⟩ = some (.slice u len cap)) (g0 : w.cell? ⟨g, 0, none⟩ = some (.string z)) (g1 : w.cell? ⟨g, 1, none⟩ = some (.int .i64 len)) (g2 : w.cell? ⟨g, 2, none⟩ = some (.func (.func 192) #[] #[.pointer (some ⟨x1, 0, none⟩), .pointer (some ⟨x2, 0, none⟩), .pointer (some ⟨x3, 0, none⟩), .pointer (some ⟨x4, 0, none⟩)]))
    (HD : Hid (Calls Tryz.prog 192 #[.slice u len cap, .pointer (some ⟨x1, 0, none⟩), .pointer (some ⟨x2, 0, none⟩), .pointer (some ⟨x3, 0, none⟩), .pointer (some ⟨x4, 0, none⟩)] w.drew.drew fun e w' => e = .returned .nilIface ∧ P w')) :
    Calls Tryz.prog 128 #[.pointer (some ⟨M, 0, none⟩), .int .i64 n] w fun e w' => e = .returned .nilIface ∧ P w' := by
  have hp := proc_is
  have hb : ((len : Int) != (len : Int)) = false := by simp
  go_enter Tryz.func128, Tryz.ntmps128
  go_wp2
  go_region
  go_wp2
  go_region_with (go_at_call 192; refine HD.out.mono ?_; rintro e w' ⟨rfl, hP⟩; have HPP := hide hP; clear hP)
  all_goals
    go_wp2
    go_ret
    exact ⟨rfl, HPP.out⟩
set_option maxRecDepth 100000 in
set_option maxHeartbeats 1000000 in
theorem apply_ok_display (w : World) (M g len cap x1 x2 x3 x4 : Nat) (n : Int) (z : ByteArray) (u : Option Addr) (P : World → Prop) (k4 : w.cell? ⟨M, 4, none⟩ = some (.iface 216 (.pointer (some ⟨g, 0, none⟩)))) (k5 : w.cell? ⟨M, 5, none⟩ = some (.slice u len cap)) (g0 : w.cell? ⟨g, 0, none⟩ = some (.string z)) (g1 : w.cell? ⟨g, 1, none⟩ = some (.int .i64 len)) (g2 : w.cell? ⟨g, 2, none⟩ = some (.func (.func 175) #[.pointer (some ⟨M, 0, none⟩)] #[]))
    (HD : Hid (Calls Tryz.prog 175 #[.pointer (some ⟨M, 0, none⟩), .slice u len cap] w.drew.drew fun e w' => e = .returned .nilIface ∧ P w')) :
    Calls Tryz.prog 128 #[.pointer (some ⟨M, 0, none⟩), .int .i64 n] w fun e w' => e = .returned .nilIface ∧ P w' := by
  have hp := proc_is
  have hb : ((len : Int) != (len : Int)) = false := by simp
  go_enter Tryz.func128, Tryz.ntmps128
  go_wp2
  go_region
  go_wp2
  go_region_with (go_at_call 175; refine HD.out.mono ?_; rintro e w' ⟨rfl, hP⟩; have HPP := hide hP; clear hP)
  all_goals
    go_wp2
    go_ret
    exact ⟨rfl, HPP.out⟩
set_option maxRecDepth 100000 in
set_option maxHeartbeats 1000000 in
theorem apply_ok_callCC (w : World) (M g len cap x1 x2 x3 x4 : Nat) (n : Int) (z : ByteArray) (u : Option Addr) (P : World → Prop) (k4 : w.cell? ⟨M, 4, none⟩ = some (.iface 216 (.pointer (some ⟨g, 0, none⟩)))) (k5 : w.cell? ⟨M, 5, none⟩ = some (.slice u len cap)) (g0 : w.cell? ⟨g, 0, none⟩ = some (.string z)) (g1 : w.cell? ⟨g, 1, none⟩ = some (.int .i64 len)) (g2 : w.cell? ⟨g, 2, none⟩ = some (.func (.func 176) #[.pointer (some ⟨M, 0, none⟩)] #[]))
    (HD : Hid (Calls Tryz.prog 176 #[.pointer (some ⟨M, 0, none⟩), .slice u len cap] w.drew.drew fun e w' => e = .returned .nilIface ∧ P w')) :
    Calls Tryz.prog 128 #[.pointer (some ⟨M, 0, none⟩), .int .i64 n] w fun e w' => e = .returned .nilIface ∧ P w' := by
  have hp := proc_is
  have hb : ((len : Int) != (len : Int)) = false := by simp
  go_enter Tryz.func128, Tryz.ntmps128
  go_wp2
  go_region
  go_wp2
  go_region_with (go_at_call 176; refine HD.out.mono ?_; rintro e w' ⟨rfl, hP⟩; have HPP := hide hP; clear hP)
  all_goals
    go_wp2
    go_ret
    exact ⟨rfl, HPP.out⟩
end Go.Proofs.YtlobegpjenabaaaGreatDoor

/- The kinds of instructions, as they walk, XIII: failing applications, halt, the table. -/
namespace Go.Proofs.YtlobegpjenabaaaGreatDoor
open Go.RowKit
set_option linter.unusedSimpArgs false
set_option linter.unusedVariables false

set_option maxRecDepth 100000 in
set_option maxHeartbeats 1000000 in
theorem apply_err_ofInts (w : World) (M g len cap x1 x2 : Nat) (n er : Int) (z : ByteArray) (u : Option Addr) (k4 : w.cell? ⟨M, 4, none⟩ = some (.iface 216 (.pointer (some ⟨g, 0, none⟩)))) (k5 : w.cell? ⟨M, 5, none⟩ = some (.slice u len cap)) (g0 : w.cell? ⟨g, 0, none⟩ = some (.string z)) (g1 : w.cell? ⟨g, 1, none⟩ = some (.int .i64 len)) (g2 : w.cell? ⟨g, 2, none⟩ = some (.func (.func 211) #[] #[.pointer (some ⟨x1, 0, none⟩), .pointer (some ⟨x2, 0, none⟩)]))
    (HD : Hid (Calls Tryz.prog 211 #[.slice u len cap, .pointer (some ⟨x1, 0, none⟩), .pointer (some ⟨x2, 0, none⟩)] w.drew.drew (RetW (.iface 107 (.agg #[.int .i64 er])) w.drew.drew))) :
    Calls Tryz.prog 128 #[.pointer (some ⟨M, 0, none⟩), .int .i64 n] w (RetW (insideV z (wrongV er)) w.drew.drew) := by
  have hp := proc_is
  have hb : ((len : Int) != (len : Int)) = false := by simp
  have hw : ∀ W, (Go.binOp .neq 103 (.iface 107 (.agg #[.int .i64 er])) .nilIface).run Tryz.prog W = .ok (.bool true) W := fun W => by kernel_rfl
  go_enter Tryz.func128, Tryz.ntmps128
  go_wp2
  go_region
  go_wp2
  go_region_with (go_at_call 211; refine HD.out.mono ?_; rintro e w' ⟨rfl, rfl⟩)
  all_goals
    go_wp2
    go_ret
    exact ⟨rfl, rfl⟩
set_option maxRecDepth 100000 in
set_option maxHeartbeats 1000000 in
theorem apply_err_ofPair (w : World) (M g len cap x1 x2 : Nat) (n er : Int) (z : ByteArray) (u : Option Addr) (k4 : w.cell? ⟨M, 4, none⟩ = some (.iface 216 (.pointer (some ⟨g, 0, none⟩)))) (k5 : w.cell? ⟨M, 5, none⟩ = some (.slice u len cap)) (g0 : w.cell? ⟨g, 0, none⟩ = some (.string z)) (g1 : w.cell? ⟨g, 1, none⟩ = some (.int .i64 len)) (g2 : w.cell? ⟨g, 2, none⟩ = some (.func (.func 214) #[] #[.pointer (some ⟨x1, 0, none⟩), .pointer (some ⟨x2, 0, none⟩)]))
    (HD : Hid (Calls Tryz.prog 214 #[.slice u len cap, .pointer (some ⟨x1, 0, none⟩), .pointer (some ⟨x2, 0, none⟩)] w.drew.drew (RetW (.iface 107 (.agg #[.int .i64 er])) w.drew.drew))) :
    Calls Tryz.prog 128 #[.pointer (some ⟨M, 0, none⟩), .int .i64 n] w (RetW (insideV z (wrongV er)) w.drew.drew) := by
  have hp := proc_is
  have hb : ((len : Int) != (len : Int)) = false := by simp
  have hw : ∀ W, (Go.binOp .neq 103 (.iface 107 (.agg #[.int .i64 er])) .nilIface).run Tryz.prog W = .ok (.bool true) W := fun W => by kernel_rfl
  go_enter Tryz.func128, Tryz.ntmps128
  go_wp2
  go_region
  go_wp2
  go_region_with (go_at_call 214; refine HD.out.mono ?_; rintro e w' ⟨rfl, rfl⟩)
  all_goals
    go_wp2
    go_ret
    exact ⟨rfl, rfl⟩
set_option maxRecDepth 100000 in
set_option maxHeartbeats 1000000 in
theorem apply_err_display (w : World) (M g len cap x1 x2 : Nat) (n er : Int) (z : ByteArray) (u : Option Addr) (k4 : w.cell? ⟨M, 4, none⟩ = some (.iface 216 (.pointer (some ⟨g, 0, none⟩)))) (k5 : w.cell? ⟨M, 5, none⟩ = some (.slice u len cap)) (g0 : w.cell? ⟨g, 0, none⟩ = some (.string z)) (g1 : w.cell? ⟨g, 1, none⟩ = some (.int .i64 len)) (g2 : w.cell? ⟨g, 2, none⟩ = some (.func (.func 175) #[.pointer (some ⟨M, 0, none⟩)] #[]))
    (HD : Hid (Calls Tryz.prog 175 #[.pointer (some ⟨M, 0, none⟩), .slice u len cap] w.drew.drew (RetW (.iface 107 (.agg #[.int .i64 er])) w.drew.drew))) :
    Calls Tryz.prog 128 #[.pointer (some ⟨M, 0, none⟩), .int .i64 n] w (RetW (insideV z (wrongV er)) w.drew.drew) := by
  have hp := proc_is
  have hb : ((len : Int) != (len : Int)) = false := by simp
  have hw : ∀ W, (Go.binOp .neq 103 (.iface 107 (.agg #[.int .i64 er])) .nilIface).run Tryz.prog W = .ok (.bool true) W := fun W => by kernel_rfl
  go_enter Tryz.func128, Tryz.ntmps128
  go_wp2
  go_region
  go_wp2
  go_region_with (go_at_call 175; refine HD.out.mono ?_; rintro e w' ⟨rfl, rfl⟩)
  all_goals
    go_wp2
    go_ret
    exact ⟨rfl, rfl⟩
/-- The program is done: its last value, told. -/
def HaltW (w : World) (M : Nat) (t : List UInt8) (e : Ending) (w' : World) : Prop := ∃ w1, e = .returned .nilIface ∧ Below w.heap.size w w1 ∧ w' = stopW w1 M 1 0 0 ⟨t.toArray⟩
set_option maxRecDepth 100000 in
set_option maxHeartbeats 1000000 in
theorem halt_go (w : World) (M : Nat) (n : Int) (v2 : Value) (tl : List UInt8) (k2 : w.cell? ⟨M, 2, none⟩ = some v2) (hM : M < w.heap.size) (c1 c3 c4 c5 c6 c8 c9 c10 c11 : Value)
    (k1 : w.cell? ⟨M, 1, none⟩ = some c1) (k3 : w.cell? ⟨M, 3, none⟩ = some c3) (k4 : w.cell? ⟨M, 4, none⟩ = some c4) (k5 : w.cell? ⟨M, 5, none⟩ = some c5) (k6 : w.cell? ⟨M, 6, none⟩ = some c6)
    (k8 : w.cell? ⟨M, 8, none⟩ = some c8) (k9 : w.cell? ⟨M, 9, none⟩ = some c9) (k10 : w.cell? ⟨M, 10, none⟩ = some c10) (k11 : w.cell? ⟨M, 11, none⟩ = some c11) (hf : ∀ o, w.frozen? ⟨M, o, none⟩ = false)
    (HT : Hid (Calls Tryz.prog 198 #[v2] w fun e w' => e = .returned (.string ⟨tl.toArray⟩) ∧ Below w.heap.size w w')) :
    Calls Tryz.prog 130 #[.pointer (some ⟨M, 0, none⟩), .int .i64 n] w (HaltW w M tl) := by
  have HS : Hid (∀ w1, Below w.heap.size w w1 → Calls Tryz.prog 51 #[.pointer (some ⟨M, 0, none⟩), .agg #[.int .i64 1, .int .i64 0, .int .i64 0, .string ⟨tl.toArray⟩]] w1 (RetW (.tuple #[]) (stopW w1 M 1 0 0 ⟨tl.toArray⟩))) := by
    intro w1 hb
    have hc : ∀ o, w1.cell? ⟨M, o, none⟩ = w.cell? ⟨M, o, none⟩ := fun o => hb.cell (p := ⟨M, o, none⟩) hM
    exact stop_raw w1 M c1 v2 c3 c4 c5 c6 c8 c9 c10 c11 1 0 0 _ (Nat.lt_of_lt_of_le hM hb.size) ((hc 1).trans k1) ((hc 2).trans k2) ((hc 3).trans k3) ((hc 4).trans k4) ((hc 5).trans k5) ((hc 6).trans k6) ((hc 8).trans k8) ((hc 9).trans k9) ((hc 10).trans k10) ((hc 11).trans k11) (fun o => by rw [hb.frozen (p := ⟨M, o, none⟩) hM]; exact hf o)
  clear k1 k3 k4 k5 k6 k8 k9 k10 k11 hf
  go_enter Tryz.func130, Tryz.ntmps130
  go_wp2_with fail
  refine HT.out.mono ?_
  rintro e w1 ⟨rfl, hb⟩
  have HB := hide hb
  clear hb
  go_wp2_with fail
  refine (HS.out w1 HB.out).mono ?_
  rintro e w2 ⟨rfl, hw2⟩
  have HW := hide hw2
  clear hw2
  go_wp2
  go_ret
  exact ⟨w1, rfl, HB.out, HW.out⟩
end Go.Proofs.YtlobegpjenabaaaGreatDoor
