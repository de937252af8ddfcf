/- One step of the machine in memory, VII: the first procedures applied, one by one. -/
import Derived.Test.YtlobegpjenabaaaGreatDoorL26
namespace Go.Proofs.YtlobegpjenabaaaGreatDoor
open Go.RowKit
set_option linter.unusedSimpArgs false
set_option linter.unusedVariables false

theorem intsS_err (s : MS) (f : Int → Int → V) (a b : V) (h : (∀ i, a ≠ .int i) ∨ (∀ j, b ≠ .int j)) : intsS s f a b = errS s 8 := by
  cases a <;> cases b <;> first | rfl | (rcases h with h | h <;> exact absurd rfl (h _))
theorem w64_eq (x : Int) : w64 x = wrap64 x := by unfold w64 wrap64; rfl
theorem w64_in (x : Int) : -9223372036854775808 ≤ w64 x ∧ w64 x ≤ 9223372036854775807 := by unfold w64; omega
theorem vxs_two {w : World} {mo : Nat → Option Nat} {a : List V} {xs : List Value} (h : VXs w mo a xs) (ha : a.length = 2) : ∃ a1 a2 x1 x2, a = [a1, a2] ∧ xs = [x1, x2] ∧ VX w mo a1 x1 ∧ VX w mo a2 x2 := by
  match a, xs, h, ha with
  | [a1, a2], [x1, x2], h, _ => exact ⟨a1, a2, x1, x2, rfl, rfl, h.1, h.2.1⟩
  | [a1, a2], [], h, _ => exact h.elim
  | [a1, a2], [x1], h, _ => exact h.2.elim
  | [a1, a2], x1 :: x2 :: x3 :: r, h, _ => exact h.2.2.elim
theorem vxs_one {w : World} {mo : Nat → Option Nat} {a : List V} {xs : List Value} (h : VXs w mo a xs) (ha : a.length = 1) : ∃ a1 x1, a = [a1] ∧ xs = [x1] ∧ VX w mo a1 x1 := by
  match a, xs, h, ha with
  | [a1], [x1], h, _ => exact ⟨a1, x1, rfl, rfl, h.1⟩
  | [a1], [], h, _ => exact h.elim
  | [a1], x1 :: x2 :: r, h, _ => exact h.2.elim
theorem giveS_ne (s : MS) (v : V) (h : giveS s v ≠ .bad) : ∃ en r, s.st = en :: r ∧ giveS s v = .ok { s with val := some v, pc := en.nx, fr := en.fr } := by
  unfold giveS at *
  cases hs : s.st with
  | nil => rw [hs] at h; exact absurd rfl h
  | cons en r => exact ⟨en, r, rfl, rfl⟩
theorem app_plus {B K : Nat} {w : World} {X : Nat → Prop} {ow mo mf : Nat → Option Nat} {M b : Nat} {C : Cd} {s : MS} {val app args out : Value} {top : Option Addr} {gf : Nat} (h : RS B K w X ow mo mf M b C s val app args out top gf) (hM : w.heap[M]? = some (Obj.cells (mcC b s.pc val (ptrV gf) app args (.pointer top) out 0 0 0 ⟨#[]⟩) 119 (0, 0))) (n : Int) (id g mb fb : Nat) (z : ByteArray) (T : TypeId) (hT : MT.contains T = false) (a : List V) (hap : s.app = some (.proc id, a)) (happ : app = .iface 216 (.pointer (some ⟨g, 0, none⟩))) (hg : w.heap[g]? = some (Obj.cells #[.string z, .int .i64 (2 : Nat), .func (.func 211) #[] #[ptrV mb, ptrV fb]] 220 (0, 0))) (hmb : Box w mb 73 (ptrV M)) (hfb : Box w fb T (.func (.func 160) #[ptrV M] #[])) (ha : a.length = 2) (hn : firstS C { s with app := none } 0 a ≠ .bad) :
    Calls Tryz.prog 128 #[.pointer (some ⟨M, 0, none⟩), .int .i64 n] w (StepPost B K X ow w M b C (firstS C { s with app := none } 0 a)) := by
  obtain ⟨k0, k1, k2, k3, k4, k5, k6, k7, k8, k9, k10, k11⟩ := mc_cell hM
  have hA := h.app
  rw [hap] at hA
  obtain ⟨hp, xs, hxs, hrw⟩ := hA
  rw [happ] at k4
  have g0 : w.cell? ⟨g, 0, none⟩ = some (.string z) := by rw [cell_of_block hg]; rfl
  have g1 : w.cell? ⟨g, 1, none⟩ = some (.int .i64 (2 : Nat)) := by rw [cell_of_block hg]; rfl
  have g2 : w.cell? ⟨g, 2, none⟩ = some (.func (.func 211) #[] #[ptrV mb, ptrV fb]) := by rw [cell_of_block hg]; rfl
  have m0 : w.cell? ⟨mb, 0, none⟩ = some (ptrV M) := by rw [cell_of_block hmb]; rfl
  have f0 : w.cell? ⟨fb, 0, none⟩ = some (.func (.func 160) #[ptrV M] #[]) := by rw [cell_of_block hfb]; rfl
  have nmb : mb ≠ M := ne_types hmb hM (by decide)
  have nfb : fb ≠ M := ne_types hfb hM (fun e => by subst e; exact absurd hT (by decide))
  have h2 := h.drew.drew
  have h3 := h2.drew
  obtain ⟨a1, a2, x1, x2, rfl, rfl, hx1, hx2⟩ := vxs_two hxs ha
  obtain ⟨gv, off, cap, c, rfl, hgv, c0, c1⟩ := rw_two hrw
  by_cases hi : ∃ i, a1 = .int i
  · obtain ⟨i, rfl⟩ := hi
    obtain ⟨rfl, _⟩ := hx1
    by_cases hj : ∃ j, a2 = .int j
    · obtain ⟨j, rfl⟩ := hj
      obtain ⟨rfl, _⟩ := hx2
      obtain ⟨en, r, hs, hgs⟩ := giveS_ne _ _ hn
      obtain ⟨E, gf0, hf0, hG⟩ := h2.giveOk hM en r hs
      refine (apply_ok_ofInts w M g 2 cap mb fb 0 0 n z _ (fun w' => w' = giveW w.drew.drew.drew M gf0 en.nx (.iface 130 (.int .i64 (wrap64 (i + j))))) k4 k5 g0 g1 g2 (hide ((do_plus w.drew.drew M E gf0 mb fb gv off cap en.nx s.pc _ _ i j hG m0 f0 c0 c1).mono fun e w' hh => hh))).mono ?_
      rintro e w' ⟨rfl, rfl⟩
      obtain ⟨X', ow', hMR, hGw⟩ := h3.given hM en r hs gf0 hf0 (.int (w64 (i + j))) 130 (.int .i64 (wrap64 (i + j))) ⟨by rw [w64_eq], (w64_in _).1, (w64_in _).2⟩
      show StepPost B K X ow w M b C (giveS _ _) _ _
      rw [hgs]
      exact ⟨rfl, X', ow', hMR, (Gw.drew.trans (Gw.drew.trans Gw.drew)).trans hGw⟩
    · have hj' : ∀ j, a2 ≠ .int j := fun j e => hj ⟨j, e⟩
      have he : firstS C { s with app := none } 0 [.int i, a2] = errS { s with app := none } 8 := intsS_err _ _ _ _ (.inr hj')
      rw [he] at hn ⊢
      obtain ⟨t2, y2, rfl⟩ := hx2.form
      refine (apply_err_ofInts w M g 2 cap mb fb n 8 z _ k4 k5 g0 g1 g2 (hide (do_ints_bad2 w.drew.drew mb fb gv off cap _ _ _ _ c0 c1 i (int_is i) (noInt hx2 hj')))).mono ?_
      rintro e w' ⟨rfl, rfl⟩
      exact inside_step h hM 8 z _ ⟨2, rfl⟩ hn
  · have hi' : ∀ j, a1 ≠ .int j := fun j e => hi ⟨j, e⟩
    have he : firstS C { s with app := none } 0 [a1, a2] = errS { s with app := none } 8 := intsS_err _ _ _ _ (.inl hi')
    rw [he] at hn ⊢
    obtain ⟨t1, y1, rfl⟩ := hx1.form
    by_cases hj : ∃ j, a2 = .int j
    · obtain ⟨j, rfl⟩ := hj
      obtain ⟨rfl, _⟩ := hx2
      refine (apply_err_ofInts w M g 2 cap mb fb n 8 z _ k4 k5 g0 g1 g2 (hide (do_ints_bad1 w.drew.drew mb fb gv off cap _ _ _ _ .nilIface .nilIface true c0 c1 rfl (noInt hx1 hi') j (int_is j)))).mono ?_
      rintro e w' ⟨rfl, rfl⟩
      exact inside_step h hM 8 z _ ⟨2, rfl⟩ hn
    · have hj' : ∀ j, a2 ≠ .int j := fun j e => hj ⟨j, e⟩
      obtain ⟨t2, y2, rfl⟩ := hx2.form
      refine (apply_err_ofInts w M g 2 cap mb fb n 8 z _ k4 k5 g0 g1 g2 (hide (do_ints_bad1 w.drew.drew mb fb gv off cap _ _ _ _ .nilIface .nilIface false c0 c1 rfl (noInt hx1 hi') 0 (noInt hx2 hj')))).mono ?_
      rintro e w' ⟨rfl, rfl⟩
      exact inside_step h hM 8 z _ ⟨2, rfl⟩ hn
theorem app_minus {B K : Nat} {w : World} {X : Nat → Prop} {ow mo mf : Nat → Option Nat} {M b : Nat} {C : Cd} {s : MS} {val app args out : Value} {top : Option Addr} {gf : Nat} (h : RS B K w X ow mo mf M b C s val app args out top gf) (hM : w.heap[M]? = some (Obj.cells (mcC b s.pc val (ptrV gf) app args (.pointer top) out 0 0 0 ⟨#[]⟩) 119 (0, 0))) (n : Int) (id g mb fb : Nat) (z : ByteArray) (T : TypeId) (hT : MT.contains T = false) (a : List V) (hap : s.app = some (.proc id, a)) (happ : app = .iface 216 (.pointer (some ⟨g, 0, none⟩))) (hg : w.heap[g]? = some (Obj.cells #[.string z, .int .i64 (2 : Nat), .func (.func 211) #[] #[ptrV mb, ptrV fb]] 220 (0, 0))) (hmb : Box w mb 73 (ptrV M)) (hfb : Box w fb T (.func (.func 161) #[ptrV M] #[])) (ha : a.length = 2) (hn : firstS C { s with app := none } 1 a ≠ .bad) :
    Calls Tryz.prog 128 #[.pointer (some ⟨M, 0, none⟩), .int .i64 n] w (StepPost B K X ow w M b C (firstS C { s with app := none } 1 a)) := by
  obtain ⟨k0, k1, k2, k3, k4, k5, k6, k7, k8, k9, k10, k11⟩ := mc_cell hM
  have hA := h.app
  rw [hap] at hA
  obtain ⟨hp, xs, hxs, hrw⟩ := hA
  rw [happ] at k4
  have g0 : w.cell? ⟨g, 0, none⟩ = some (.string z) := by rw [cell_of_block hg]; rfl
  have g1 : w.cell? ⟨g, 1, none⟩ = some (.int .i64 (2 : Nat)) := by rw [cell_of_block hg]; rfl
  have g2 : w.cell? ⟨g, 2, none⟩ = some (.func (.func 211) #[] #[ptrV mb, ptrV fb]) := by rw [cell_of_block hg]; rfl
  have m0 : w.cell? ⟨mb, 0, none⟩ = some (ptrV M) := by rw [cell_of_block hmb]; rfl
  have f0 : w.cell? ⟨fb, 0, none⟩ = some (.func (.func 161) #[ptrV M] #[]) := by rw [cell_of_block hfb]; rfl
  have nmb : mb ≠ M := ne_types hmb hM (by decide)
  have nfb : fb ≠ M := ne_types hfb hM (fun e => by subst e; exact absurd hT (by decide))
  have h2 := h.drew.drew
  have h3 := h2.drew
  obtain ⟨a1, a2, x1, x2, rfl, rfl, hx1, hx2⟩ := vxs_two hxs ha
  obtain ⟨gv, off, cap, c, rfl, hgv, c0, c1⟩ := rw_two hrw
  by_cases hi : ∃ i, a1 = .int i
  · obtain ⟨i, rfl⟩ := hi
    obtain ⟨rfl, _⟩ := hx1
    by_cases hj : ∃ j, a2 = .int j
    · obtain ⟨j, rfl⟩ := hj
      obtain ⟨rfl, _⟩ := hx2
      obtain ⟨en, r, hs, hgs⟩ := giveS_ne _ _ hn
      obtain ⟨E, gf0, hf0, hG⟩ := h2.giveOk hM en r hs
      refine (apply_ok_ofInts w M g 2 cap mb fb 0 0 n z _ (fun w' => w' = giveW w.drew.drew.drew M gf0 en.nx (.iface 130 (.int .i64 (wrap64 (i - j))))) k4 k5 g0 g1 g2 (hide ((do_minus w.drew.drew M E gf0 mb fb gv off cap en.nx s.pc _ _ i j hG m0 f0 c0 c1).mono fun e w' hh => hh))).mono ?_
      rintro e w' ⟨rfl, rfl⟩
      obtain ⟨X', ow', hMR, hGw⟩ := h3.given hM en r hs gf0 hf0 (.int (w64 (i - j))) 130 (.int .i64 (wrap64 (i - j))) ⟨by rw [w64_eq], (w64_in _).1, (w64_in _).2⟩
      show StepPost B K X ow w M b C (giveS _ _) _ _
      rw [hgs]
      exact ⟨rfl, X', ow', hMR, (Gw.drew.trans (Gw.drew.trans Gw.drew)).trans hGw⟩
    · have hj' : ∀ j, a2 ≠ .int j := fun j e => hj ⟨j, e⟩
      have he : firstS C { s with app := none } 1 [.int i, a2] = errS { s with app := none } 8 := intsS_err _ _ _ _ (.inr hj')
      rw [he] at hn ⊢
      obtain ⟨t2, y2, rfl⟩ := hx2.form
      refine (apply_err_ofInts w M g 2 cap mb fb n 8 z _ k4 k5 g0 g1 g2 (hide (do_ints_bad2 w.drew.drew mb fb gv off cap _ _ _ _ c0 c1 i (int_is i) (noInt hx2 hj')))).mono ?_
      rintro e w' ⟨rfl, rfl⟩
      exact inside_step h hM 8 z _ ⟨2, rfl⟩ hn
  · have hi' : ∀ j, a1 ≠ .int j := fun j e => hi ⟨j, e⟩
    have he : firstS C { s with app := none } 1 [a1, a2] = errS { s with app := none } 8 := intsS_err _ _ _ _ (.inl hi')
    rw [he] at hn ⊢
    obtain ⟨t1, y1, rfl⟩ := hx1.form
    by_cases hj : ∃ j, a2 = .int j
    · obtain ⟨j, rfl⟩ := hj
      obtain ⟨rfl, _⟩ := hx2
      refine (apply_err_ofInts w M g 2 cap mb fb n 8 z _ k4 k5 g0 g1 g2 (hide (do_ints_bad1 w.drew.drew mb fb gv off cap _ _ _ _ .nilIface .nilIface true c0 c1 rfl (noInt hx1 hi') j (int_is j)))).mono ?_
      rintro e w' ⟨rfl, rfl⟩
      exact inside_step h hM 8 z _ ⟨2, rfl⟩ hn
    · have hj' : ∀ j, a2 ≠ .int j := fun j e => hj ⟨j, e⟩
      obtain ⟨t2, y2, rfl⟩ := hx2.form
      refine (apply_err_ofInts w M g 2 cap mb fb n 8 z _ k4 k5 g0 g1 g2 (hide (do_ints_bad1 w.drew.drew mb fb gv off cap _ _ _ _ .nilIface .nilIface false c0 c1 rfl (noInt hx1 hi') 0 (noInt hx2 hj')))).mono ?_
      rintro e w' ⟨rfl, rfl⟩
      exact inside_step h hM 8 z _ ⟨2, rfl⟩ hn
theorem app_times {B K : Nat} {w : World} {X : Nat → Prop} {ow mo mf : Nat → Option Nat} {M b : Nat} {C : Cd} {s : MS} {val app args out : Value} {top : Option Addr} {gf : Nat} (h : RS B K w X ow mo mf M b C s val app args out top gf) (hM : w.heap[M]? = some (Obj.cells (mcC b s.pc val (ptrV gf) app args (.pointer top) out 0 0 0 ⟨#[]⟩) 119 (0, 0))) (n : Int) (id g mb fb : Nat) (z : ByteArray) (T : TypeId) (hT : MT.contains T = false) (a : List V) (hap : s.app = some (.proc id, a)) (happ : app = .iface 216 (.pointer (some ⟨g, 0, none⟩))) (hg : w.heap[g]? = some (Obj.cells #[.string z, .int .i64 (2 : Nat), .func (.func 211) #[] #[ptrV mb, ptrV fb]] 220 (0, 0))) (hmb : Box w mb 73 (ptrV M)) (hfb : Box w fb T (.func (.func 162) #[ptrV M] #[])) (ha : a.length = 2) (hn : firstS C { s with app := none } 2 a ≠ .bad) :
    Calls Tryz.prog 128 #[.pointer (some ⟨M, 0, none⟩), .int .i64 n] w (StepPost B K X ow w M b C (firstS C { s with app := none } 2 a)) := by
  obtain ⟨k0, k1, k2, k3, k4, k5, k6, k7, k8, k9, k10, k11⟩ := mc_cell hM
  have hA := h.app
  rw [hap] at hA
  obtain ⟨hp, xs, hxs, hrw⟩ := hA
  rw [happ] at k4
  have g0 : w.cell? ⟨g, 0, none⟩ = some (.string z) := by rw [cell_of_block hg]; rfl
  have g1 : w.cell? ⟨g, 1, none⟩ = some (.int .i64 (2 : Nat)) := by rw [cell_of_block hg]; rfl
  have g2 : w.cell? ⟨g, 2, none⟩ = some (.func (.func 211) #[] #[ptrV mb, ptrV fb]) := by rw [cell_of_block hg]; rfl
  have m0 : w.cell? ⟨mb, 0, none⟩ = some (ptrV M) := by rw [cell_of_block hmb]; rfl
  have f0 : w.cell? ⟨fb, 0, none⟩ = some (.func (.func 162) #[ptrV M] #[]) := by rw [cell_of_block hfb]; rfl
  have nmb : mb ≠ M := ne_types hmb hM (by decide)
  have nfb : fb ≠ M := ne_types hfb hM (fun e => by subst e; exact absurd hT (by decide))
  have h2 := h.drew.drew
  have h3 := h2.drew
  obtain ⟨a1, a2, x1, x2, rfl, rfl, hx1, hx2⟩ := vxs_two hxs ha
  obtain ⟨gv, off, cap, c, rfl, hgv, c0, c1⟩ := rw_two hrw
  by_cases hi : ∃ i, a1 = .int i
  · obtain ⟨i, rfl⟩ := hi
    obtain ⟨rfl, _⟩ := hx1
    by_cases hj : ∃ j, a2 = .int j
    · obtain ⟨j, rfl⟩ := hj
      obtain ⟨rfl, _⟩ := hx2
      obtain ⟨en, r, hs, hgs⟩ := giveS_ne _ _ hn
      obtain ⟨E, gf0, hf0, hG⟩ := h2.giveOk hM en r hs
      refine (apply_ok_ofInts w M g 2 cap mb fb 0 0 n z _ (fun w' => w' = giveW w.drew.drew.drew M gf0 en.nx (.iface 130 (.int .i64 (wrap64 (i * j))))) k4 k5 g0 g1 g2 (hide ((do_times w.drew.drew M E gf0 mb fb gv off cap en.nx s.pc _ _ i j hG m0 f0 c0 c1).mono fun e w' hh => hh))).mono ?_
      rintro e w' ⟨rfl, rfl⟩
      obtain ⟨X', ow', hMR, hGw⟩ := h3.given hM en r hs gf0 hf0 (.int (w64 (i * j))) 130 (.int .i64 (wrap64 (i * j))) ⟨by rw [w64_eq], (w64_in _).1, (w64_in _).2⟩
      show StepPost B K X ow w M b C (giveS _ _) _ _
      rw [hgs]
      exact ⟨rfl, X', ow', hMR, (Gw.drew.trans (Gw.drew.trans Gw.drew)).trans hGw⟩
    · have hj' : ∀ j, a2 ≠ .int j := fun j e => hj ⟨j, e⟩
      have he : firstS C { s with app := none } 2 [.int i, a2] = errS { s with app := none } 8 := intsS_err _ _ _ _ (.inr hj')
      rw [he] at hn ⊢
      obtain ⟨t2, y2, rfl⟩ := hx2.form
      refine (apply_err_ofInts w M g 2 cap mb fb n 8 z _ k4 k5 g0 g1 g2 (hide (do_ints_bad2 w.drew.drew mb fb gv off cap _ _ _ _ c0 c1 i (int_is i) (noInt hx2 hj')))).mono ?_
      rintro e w' ⟨rfl, rfl⟩
      exact inside_step h hM 8 z _ ⟨2, rfl⟩ hn
  · have hi' : ∀ j, a1 ≠ .int j := fun j e => hi ⟨j, e⟩
    have he : firstS C { s with app := none } 2 [a1, a2] = errS { s with app := none } 8 := intsS_err _ _ _ _ (.inl hi')
    rw [he] at hn ⊢
    obtain ⟨t1, y1, rfl⟩ := hx1.form
    by_cases hj : ∃ j, a2 = .int j
    · obtain ⟨j, rfl⟩ := hj
      obtain ⟨rfl, _⟩ := hx2
      refine (apply_err_ofInts w M g 2 cap mb fb n 8 z _ k4 k5 g0 g1 g2 (hide (do_ints_bad1 w.drew.drew mb fb gv off cap _ _ _ _ .nilIface .nilIface true c0 c1 rfl (noInt hx1 hi') j (int_is j)))).mono ?_
      rintro e w' ⟨rfl, rfl⟩
      exact inside_step h hM 8 z _ ⟨2, rfl⟩ hn
    · have hj' : ∀ j, a2 ≠ .int j := fun j e => hj ⟨j, e⟩
      obtain ⟨t2, y2, rfl⟩ := hx2.form
      refine (apply_err_ofInts w M g 2 cap mb fb n 8 z _ k4 k5 g0 g1 g2 (hide (do_ints_bad1 w.drew.drew mb fb gv off cap _ _ _ _ .nilIface .nilIface false c0 c1 rfl (noInt hx1 hi') 0 (noInt hx2 hj')))).mono ?_
      rintro e w' ⟨rfl, rfl⟩
      exact inside_step h hM 8 z _ ⟨2, rfl⟩ hn
theorem app_less {B K : Nat} {w : World} {X : Nat → Prop} {ow mo mf : Nat → Option Nat} {M b : Nat} {C : Cd} {s : MS} {val app args out : Value} {top : Option Addr} {gf : Nat} (h : RS B K w X ow mo mf M b C s val app args out top gf) (hM : w.heap[M]? = some (Obj.cells (mcC b s.pc val (ptrV gf) app args (.pointer top) out 0 0 0 ⟨#[]⟩) 119 (0, 0))) (n : Int) (id g mb fb : Nat) (z : ByteArray) (T : TypeId) (hT : MT.contains T = false) (a : List V) (hap : s.app = some (.proc id, a)) (happ : app = .iface 216 (.pointer (some ⟨g, 0, none⟩))) (hg : w.heap[g]? = some (Obj.cells #[.string z, .int .i64 (2 : Nat), .func (.func 211) #[] #[ptrV mb, ptrV fb]] 220 (0, 0))) (hmb : Box w mb 73 (ptrV M)) (hfb : Box w fb T (.func (.func 163) #[ptrV M] #[])) (ha : a.length = 2) (hn : firstS C { s with app := none } 3 a ≠ .bad) :
    Calls Tryz.prog 128 #[.pointer (some ⟨M, 0, none⟩), .int .i64 n] w (StepPost B K X ow w M b C (firstS C { s with app := none } 3 a)) := by
  obtain ⟨k0, k1, k2, k3, k4, k5, k6, k7, k8, k9, k10, k11⟩ := mc_cell hM
  have hA := h.app
  rw [hap] at hA
  obtain ⟨hp, xs, hxs, hrw⟩ := hA
  rw [happ] at k4
  have g0 : w.cell? ⟨g, 0, none⟩ = some (.string z) := by rw [cell_of_block hg]; rfl
  have g1 : w.cell? ⟨g, 1, none⟩ = some (.int .i64 (2 : Nat)) := by rw [cell_of_block hg]; rfl
  have g2 : w.cell? ⟨g, 2, none⟩ = some (.func (.func 211) #[] #[ptrV mb, ptrV fb]) := by rw [cell_of_block hg]; rfl
  have m0 : w.cell? ⟨mb, 0, none⟩ = some (ptrV M) := by rw [cell_of_block hmb]; rfl
  have f0 : w.cell? ⟨fb, 0, none⟩ = some (.func (.func 163) #[ptrV M] #[]) := by rw [cell_of_block hfb]; rfl
  have nmb : mb ≠ M := ne_types hmb hM (by decide)
  have nfb : fb ≠ M := ne_types hfb hM (fun e => by subst e; exact absurd hT (by decide))
  have h2 := h.drew.drew
  have h3 := h2.drew
  obtain ⟨a1, a2, x1, x2, rfl, rfl, hx1, hx2⟩ := vxs_two hxs ha
  obtain ⟨gv, off, cap, c, rfl, hgv, c0, c1⟩ := rw_two hrw
  by_cases hi : ∃ i, a1 = .int i
  · obtain ⟨i, rfl⟩ := hi
    obtain ⟨rfl, _⟩ := hx1
    by_cases hj : ∃ j, a2 = .int j
    · obtain ⟨j, rfl⟩ := hj
      obtain ⟨rfl, _⟩ := hx2
      obtain ⟨en, r, hs, hgs⟩ := giveS_ne _ _ hn
      obtain ⟨E, gf0, hf0, hG⟩ := h2.giveOk hM en r hs
      refine (apply_ok_ofInts w M g 2 cap mb fb 0 0 n z _ (fun w' => w' = giveW w.drew.drew.drew M gf0 en.nx (.iface 131 (.bool (decide (i < j))))) k4 k5 g0 g1 g2 (hide ((do_less w.drew.drew M E gf0 mb fb gv off cap en.nx s.pc _ _ i j hG m0 f0 c0 c1).mono fun e w' hh => hh))).mono ?_
      rintro e w' ⟨rfl, rfl⟩
      obtain ⟨X', ow', hMR, hGw⟩ := h3.given hM en r hs gf0 hf0 (.bool (decide (i < j))) 131 (.bool (decide (i < j))) rfl
      show StepPost B K X ow w M b C (giveS _ _) _ _
      rw [hgs]
      exact ⟨rfl, X', ow', hMR, (Gw.drew.trans (Gw.drew.trans Gw.drew)).trans hGw⟩
    · have hj' : ∀ j, a2 ≠ .int j := fun j e => hj ⟨j, e⟩
      have he : firstS C { s with app := none } 3 [.int i, a2] = errS { s with app := none } 8 := intsS_err _ _ _ _ (.inr hj')
      rw [he] at hn ⊢
      obtain ⟨t2, y2, rfl⟩ := hx2.form
      refine (apply_err_ofInts w M g 2 cap mb fb n 8 z _ k4 k5 g0 g1 g2 (hide (do_ints_bad2 w.drew.drew mb fb gv off cap _ _ _ _ c0 c1 i (int_is i) (noInt hx2 hj')))).mono ?_
      rintro e w' ⟨rfl, rfl⟩
      exact inside_step h hM 8 z _ ⟨2, rfl⟩ hn
  · have hi' : ∀ j, a1 ≠ .int j := fun j e => hi ⟨j, e⟩
    have he : firstS C { s with app := none } 3 [a1, a2] = errS { s with app := none } 8 := intsS_err _ _ _ _ (.inl hi')
    rw [he] at hn ⊢
    obtain ⟨t1, y1, rfl⟩ := hx1.form
    by_cases hj : ∃ j, a2 = .int j
    · obtain ⟨j, rfl⟩ := hj
      obtain ⟨rfl, _⟩ := hx2
      refine (apply_err_ofInts w M g 2 cap mb fb n 8 z _ k4 k5 g0 g1 g2 (hide (do_ints_bad1 w.drew.drew mb fb gv off cap _ _ _ _ .nilIface .nilIface true c0 c1 rfl (noInt hx1 hi') j (int_is j)))).mono ?_
      rintro e w' ⟨rfl, rfl⟩
      exact inside_step h hM 8 z _ ⟨2, rfl⟩ hn
    · have hj' : ∀ j, a2 ≠ .int j := fun j e => hj ⟨j, e⟩
      obtain ⟨t2, y2, rfl⟩ := hx2.form
      refine (apply_err_ofInts w M g 2 cap mb fb n 8 z _ k4 k5 g0 g1 g2 (hide (do_ints_bad1 w.drew.drew mb fb gv off cap _ _ _ _ .nilIface .nilIface false c0 c1 rfl (noInt hx1 hi') 0 (noInt hx2 hj')))).mono ?_
      rintro e w' ⟨rfl, rfl⟩
      exact inside_step h hM 8 z _ ⟨2, rfl⟩ hn
theorem app_equal {B K : Nat} {w : World} {X : Nat → Prop} {ow mo mf : Nat → Option Nat} {M b : Nat} {C : Cd} {s : MS} {val app args out : Value} {top : Option Addr} {gf : Nat} (h : RS B K w X ow mo mf M b C s val app args out top gf) (hM : w.heap[M]? = some (Obj.cells (mcC b s.pc val (ptrV gf) app args (.pointer top) out 0 0 0 ⟨#[]⟩) 119 (0, 0))) (n : Int) (id g mb fb : Nat) (z : ByteArray) (T : TypeId) (hT : MT.contains T = false) (a : List V) (hap : s.app = some (.proc id, a)) (happ : app = .iface 216 (.pointer (some ⟨g, 0, none⟩))) (hg : w.heap[g]? = some (Obj.cells #[.string z, .int .i64 (2 : Nat), .func (.func 211) #[] #[ptrV mb, ptrV fb]] 220 (0, 0))) (hmb : Box w mb 73 (ptrV M)) (hfb : Box w fb T (.func (.func 164) #[ptrV M] #[])) (ha : a.length = 2) (hn : firstS C { s with app := none } 4 a ≠ .bad) :
    Calls Tryz.prog 128 #[.pointer (some ⟨M, 0, none⟩), .int .i64 n] w (StepPost B K X ow w M b C (firstS C { s with app := none } 4 a)) := by
  obtain ⟨k0, k1, k2, k3, k4, k5, k6, k7, k8, k9, k10, k11⟩ := mc_cell hM
  have hA := h.app
  rw [hap] at hA
  obtain ⟨hp, xs, hxs, hrw⟩ := hA
  rw [happ] at k4
  have g0 : w.cell? ⟨g, 0, none⟩ = some (.string z) := by rw [cell_of_block hg]; rfl
  have g1 : w.cell? ⟨g, 1, none⟩ = some (.int .i64 (2 : Nat)) := by rw [cell_of_block hg]; rfl
  have g2 : w.cell? ⟨g, 2, none⟩ = some (.func (.func 211) #[] #[ptrV mb, ptrV fb]) := by rw [cell_of_block hg]; rfl
  have m0 : w.cell? ⟨mb, 0, none⟩ = some (ptrV M) := by rw [cell_of_block hmb]; rfl
  have f0 : w.cell? ⟨fb, 0, none⟩ = some (.func (.func 164) #[ptrV M] #[]) := by rw [cell_of_block hfb]; rfl
  have nmb : mb ≠ M := ne_types hmb hM (by decide)
  have nfb : fb ≠ M := ne_types hfb hM (fun e => by subst e; exact absurd hT (by decide))
  have h2 := h.drew.drew
  have h3 := h2.drew
  obtain ⟨a1, a2, x1, x2, rfl, rfl, hx1, hx2⟩ := vxs_two hxs ha
  obtain ⟨gv, off, cap, c, rfl, hgv, c0, c1⟩ := rw_two hrw
  by_cases hi : ∃ i, a1 = .int i
  · obtain ⟨i, rfl⟩ := hi
    obtain ⟨rfl, _⟩ := hx1
    by_cases hj : ∃ j, a2 = .int j
    · obtain ⟨j, rfl⟩ := hj
      obtain ⟨rfl, _⟩ := hx2
      obtain ⟨en, r, hs, hgs⟩ := giveS_ne _ _ hn
      obtain ⟨E, gf0, hf0, hG⟩ := h2.giveOk hM en r hs
      refine (apply_ok_ofInts w M g 2 cap mb fb 0 0 n z _ (fun w' => w' = giveW w.drew.drew.drew M gf0 en.nx (.iface 131 (.bool (i == j)))) k4 k5 g0 g1 g2 (hide ((do_equal w.drew.drew M E gf0 mb fb gv off cap en.nx s.pc _ _ i j hG m0 f0 c0 c1).mono fun e w' hh => hh))).mono ?_
      rintro e w' ⟨rfl, rfl⟩
      obtain ⟨X', ow', hMR, hGw⟩ := h3.given hM en r hs gf0 hf0 (.bool (i == j)) 131 (.bool (i == j)) rfl
      show StepPost B K X ow w M b C (giveS _ _) _ _
      rw [hgs]
      exact ⟨rfl, X', ow', hMR, (Gw.drew.trans (Gw.drew.trans Gw.drew)).trans hGw⟩
    · have hj' : ∀ j, a2 ≠ .int j := fun j e => hj ⟨j, e⟩
      have he : firstS C { s with app := none } 4 [.int i, a2] = errS { s with app := none } 8 := intsS_err _ _ _ _ (.inr hj')
      rw [he] at hn ⊢
      obtain ⟨t2, y2, rfl⟩ := hx2.form
      refine (apply_err_ofInts w M g 2 cap mb fb n 8 z _ k4 k5 g0 g1 g2 (hide (do_ints_bad2 w.drew.drew mb fb gv off cap _ _ _ _ c0 c1 i (int_is i) (noInt hx2 hj')))).mono ?_
      rintro e w' ⟨rfl, rfl⟩
      exact inside_step h hM 8 z _ ⟨2, rfl⟩ hn
  · have hi' : ∀ j, a1 ≠ .int j := fun j e => hi ⟨j, e⟩
    have he : firstS C { s with app := none } 4 [a1, a2] = errS { s with app := none } 8 := intsS_err _ _ _ _ (.inl hi')
    rw [he] at hn ⊢
    obtain ⟨t1, y1, rfl⟩ := hx1.form
    by_cases hj : ∃ j, a2 = .int j
    · obtain ⟨j, rfl⟩ := hj
      obtain ⟨rfl, _⟩ := hx2
      refine (apply_err_ofInts w M g 2 cap mb fb n 8 z _ k4 k5 g0 g1 g2 (hide (do_ints_bad1 w.drew.drew mb fb gv off cap _ _ _ _ .nilIface .nilIface true c0 c1 rfl (noInt hx1 hi') j (int_is j)))).mono ?_
      rintro e w' ⟨rfl, rfl⟩
      exact inside_step h hM 8 z _ ⟨2, rfl⟩ hn
    · have hj' : ∀ j, a2 ≠ .int j := fun j e => hj ⟨j, e⟩
      obtain ⟨t2, y2, rfl⟩ := hx2.form
      refine (apply_err_ofInts w M g 2 cap mb fb n 8 z _ k4 k5 g0 g1 g2 (hide (do_ints_bad1 w.drew.drew mb fb gv off cap _ _ _ _ .nilIface .nilIface false c0 c1 rfl (noInt hx1 hi') 0 (noInt hx2 hj')))).mono ?_
      rintro e w' ⟨rfl, rfl⟩
      exact inside_step h hM 8 z _ ⟨2, rfl⟩ hn
theorem app_car {B K : Nat} {w : World} {X : Nat → Prop} {ow mo mf : Nat → Option Nat} {M b : Nat} {C : Cd} {s : MS} {val app args out : Value} {top : Option Addr} {gf : Nat} (h : RS B K w X ow mo mf M b C s val app args out top gf) (hM : w.heap[M]? = some (Obj.cells (mcC b s.pc val (ptrV gf) app args (.pointer top) out 0 0 0 ⟨#[]⟩) 119 (0, 0))) (n : Int) (id g mb fb : Nat) (z : ByteArray) (T : TypeId) (hT : MT.contains T = false) (a : List V) (hap : s.app = some (.proc id, a)) (happ : app = .iface 216 (.pointer (some ⟨g, 0, none⟩))) (hg : w.heap[g]? = some (Obj.cells #[.string z, .int .i64 (1 : Nat), .func (.func 214) #[] #[ptrV mb, ptrV fb]] 220 (0, 0))) (hmb : Box w mb 73 (ptrV M)) (hfb : Box w fb T (.func (.func 168) #[ptrV M] #[])) (ha : a.length = 1) (hn : firstS C { s with app := none } 6 a ≠ .bad) :
    Calls Tryz.prog 128 #[.pointer (some ⟨M, 0, none⟩), .int .i64 n] w (StepPost B K X ow w M b C (firstS C { s with app := none } 6 a)) := by
  obtain ⟨k0, k1, k2, k3, k4, k5, k6, k7, k8, k9, k10, k11⟩ := mc_cell hM
  have hA := h.app
  rw [hap] at hA
  obtain ⟨hp, xs, hxs, hrw⟩ := hA
  rw [happ] at k4
  have g0 : w.cell? ⟨g, 0, none⟩ = some (.string z) := by rw [cell_of_block hg]; rfl
  have g1 : w.cell? ⟨g, 1, none⟩ = some (.int .i64 (1 : Nat)) := by rw [cell_of_block hg]; rfl
  have g2 : w.cell? ⟨g, 2, none⟩ = some (.func (.func 214) #[] #[ptrV mb, ptrV fb]) := by rw [cell_of_block hg]; rfl
  have m0 : w.cell? ⟨mb, 0, none⟩ = some (ptrV M) := by rw [cell_of_block hmb]; rfl
  have f0 : w.cell? ⟨fb, 0, none⟩ = some (.func (.func 168) #[ptrV M] #[]) := by rw [cell_of_block hfb]; rfl
  have nmb : mb ≠ M := ne_types hmb hM (by decide)
  have nfb : fb ≠ M := ne_types hfb hM (fun e => by subst e; exact absurd hT (by decide))
  have h2 := h.drew.drew
  have h3 := h2.drew
  obtain ⟨a1, x1, rfl, rfl, hx1⟩ := vxs_one hxs ha
  obtain ⟨gv, off, cap, c, rfl, hgv, c0⟩ := rw_one hrw
  by_cases hi : ∃ i p q, a1 = .pair i p q
  · obtain ⟨i, p, q, rfl⟩ := hi
    obtain ⟨gp, u, v, hgp, rfl, hbp, hu, hv⟩ := hx1
    obtain ⟨t, y, rfl⟩ := hu.form
    obtain ⟨en, r, hs, hgs⟩ := giveS_ne _ _ hn
    obtain ⟨E, gf0, hf0, hG⟩ := h2.giveOk hM en r hs
    refine (apply_ok_ofPair w M g 1 cap mb fb 0 0 n z _ (fun w' => w' = giveW w.drew.drew.drew M gf0 en.nx (.iface t y)) k4 k5 g0 g1 g2 (hide ((do_car w.drew.drew M E gf0 mb fb gv off cap gp en.nx s.pc _ _ t y hG m0 f0 c0 (show w.cell? _ = _ by rw [cell_of_block hbp]; rfl)).mono fun e w' hh => hh))).mono ?_
    rintro e w' ⟨rfl, rfl⟩
    obtain ⟨X', ow', hMR, hGw⟩ := h3.given hM en r hs gf0 hf0 p _ _ (VX.keep (show Keep _ w w.drew.drew.drew from fun _ _ hx => hx) (Le.refl _) _ _ hu)
    show StepPost B K X ow w M b C (giveS _ _) _ _
    rw [hgs]
    exact ⟨rfl, X', ow', hMR, (Gw.drew.trans (Gw.drew.trans Gw.drew)).trans hGw⟩
  · have hi' : ∀ i p q, a1 ≠ .pair i p q := fun i p q e => hi ⟨i, p, q, e⟩
    have he : firstS C { s with app := none } 6 [a1] = errS { s with app := none } 8 := by
      cases a1 <;> first | rfl | exact absurd rfl (hi' _ _ _)
    rw [he] at hn ⊢
    obtain ⟨t1, y1, rfl⟩ := hx1.form
    refine (apply_err_ofPair w M g 1 cap mb fb n 8 z _ k4 k5 g0 g1 g2 (hide (do_pair_bad w.drew.drew mb fb gv off cap _ _ c0 (noPair hx1 hi')))).mono ?_
    rintro e w' ⟨rfl, rfl⟩
    exact inside_step h hM 8 z _ ⟨2, rfl⟩ hn
theorem app_cdr {B K : Nat} {w : World} {X : Nat → Prop} {ow mo mf : Nat → Option Nat} {M b : Nat} {C : Cd} {s : MS} {val app args out : Value} {top : Option Addr} {gf : Nat} (h : RS B K w X ow mo mf M b C s val app args out top gf) (hM : w.heap[M]? = some (Obj.cells (mcC b s.pc val (ptrV gf) app args (.pointer top) out 0 0 0 ⟨#[]⟩) 119 (0, 0))) (n : Int) (id g mb fb : Nat) (z : ByteArray) (T : TypeId) (hT : MT.contains T = false) (a : List V) (hap : s.app = some (.proc id, a)) (happ : app = .iface 216 (.pointer (some ⟨g, 0, none⟩))) (hg : w.heap[g]? = some (Obj.cells #[.string z, .int .i64 (1 : Nat), .func (.func 214) #[] #[ptrV mb, ptrV fb]] 220 (0, 0))) (hmb : Box w mb 73 (ptrV M)) (hfb : Box w fb T (.func (.func 169) #[ptrV M] #[])) (ha : a.length = 1) (hn : firstS C { s with app := none } 7 a ≠ .bad) :
    Calls Tryz.prog 128 #[.pointer (some ⟨M, 0, none⟩), .int .i64 n] w (StepPost B K X ow w M b C (firstS C { s with app := none } 7 a)) := by
  obtain ⟨k0, k1, k2, k3, k4, k5, k6, k7, k8, k9, k10, k11⟩ := mc_cell hM
  have hA := h.app
  rw [hap] at hA
  obtain ⟨hp, xs, hxs, hrw⟩ := hA
  rw [happ] at k4
  have g0 : w.cell? ⟨g, 0, none⟩ = some (.string z) := by rw [cell_of_block hg]; rfl
  have g1 : w.cell? ⟨g, 1, none⟩ = some (.int .i64 (1 : Nat)) := by rw [cell_of_block hg]; rfl
  have g2 : w.cell? ⟨g, 2, none⟩ = some (.func (.func 214) #[] #[ptrV mb, ptrV fb]) := by rw [cell_of_block hg]; rfl
  have m0 : w.cell? ⟨mb, 0, none⟩ = some (ptrV M) := by rw [cell_of_block hmb]; rfl
  have f0 : w.cell? ⟨fb, 0, none⟩ = some (.func (.func 169) #[ptrV M] #[]) := by rw [cell_of_block hfb]; rfl
  have nmb : mb ≠ M := ne_types hmb hM (by decide)
  have nfb : fb ≠ M := ne_types hfb hM (fun e => by subst e; exact absurd hT (by decide))
  have h2 := h.drew.drew
  have h3 := h2.drew
  obtain ⟨a1, x1, rfl, rfl, hx1⟩ := vxs_one hxs ha
  obtain ⟨gv, off, cap, c, rfl, hgv, c0⟩ := rw_one hrw
  by_cases hi : ∃ i p q, a1 = .pair i p q
  · obtain ⟨i, p, q, rfl⟩ := hi
    obtain ⟨gp, u, v, hgp, rfl, hbp, hu, hv⟩ := hx1
    obtain ⟨t, y, rfl⟩ := hv.form
    obtain ⟨en, r, hs, hgs⟩ := giveS_ne _ _ hn
    obtain ⟨E, gf0, hf0, hG⟩ := h2.giveOk hM en r hs
    refine (apply_ok_ofPair w M g 1 cap mb fb 0 0 n z _ (fun w' => w' = giveW w.drew.drew.drew M gf0 en.nx (.iface t y)) k4 k5 g0 g1 g2 (hide ((do_cdr w.drew.drew M E gf0 mb fb gv off cap gp en.nx s.pc _ _ t y hG m0 f0 c0 (show w.cell? _ = _ by rw [cell_of_block hbp]; rfl)).mono fun e w' hh => hh))).mono ?_
    rintro e w' ⟨rfl, rfl⟩
    obtain ⟨X', ow', hMR, hGw⟩ := h3.given hM en r hs gf0 hf0 q _ _ (VX.keep (show Keep _ w w.drew.drew.drew from fun _ _ hx => hx) (Le.refl _) _ _ hv)
    show StepPost B K X ow w M b C (giveS _ _) _ _
    rw [hgs]
    exact ⟨rfl, X', ow', hMR, (Gw.drew.trans (Gw.drew.trans Gw.drew)).trans hGw⟩
  · have hi' : ∀ i p q, a1 ≠ .pair i p q := fun i p q e => hi ⟨i, p, q, e⟩
    have he : firstS C { s with app := none } 7 [a1] = errS { s with app := none } 8 := by
      cases a1 <;> first | rfl | exact absurd rfl (hi' _ _ _)
    rw [he] at hn ⊢
    obtain ⟨t1, y1, rfl⟩ := hx1.form
    refine (apply_err_ofPair w M g 1 cap mb fb n 8 z _ k4 k5 g0 g1 g2 (hide (do_pair_bad w.drew.drew mb fb gv off cap _ _ c0 (noPair hx1 hi')))).mono ?_
    rintro e w' ⟨rfl, rfl⟩
    exact inside_step h hM 8 z _ ⟨2, rfl⟩ hn
theorem app_isEmpty {B K : Nat} {w : World} {X : Nat → Prop} {ow mo mf : Nat → Option Nat} {M b : Nat} {C : Cd} {s : MS} {val app args out : Value} {top : Option Addr} {gf : Nat} (h : RS B K w X ow mo mf M b C s val app args out top gf) (hM : w.heap[M]? = some (Obj.cells (mcC b s.pc val (ptrV gf) app args (.pointer top) out 0 0 0 ⟨#[]⟩) 119 (0, 0))) (n : Int) (id g mb fb : Nat) (z : ByteArray) (T : TypeId) (hT : MT.contains T = false) (a : List V) (hap : s.app = some (.proc id, a)) (happ : app = .iface 216 (.pointer (some ⟨g, 0, none⟩))) (hg : w.heap[g]? = some (Obj.cells #[.string z, .int .i64 (1 : Nat), .func (.func 215) #[] #[ptrV mb, ptrV fb]] 220 (0, 0))) (hmb : Box w mb 73 (ptrV M)) (hfb : Box w fb T (.func (.func 171) #[ptrV M] #[])) (ha : a.length = 1) (hn : firstS C { s with app := none } 8 a ≠ .bad) :
    Calls Tryz.prog 128 #[.pointer (some ⟨M, 0, none⟩), .int .i64 n] w (StepPost B K X ow w M b C (firstS C { s with app := none } 8 a)) := by
  obtain ⟨k0, k1, k2, k3, k4, k5, k6, k7, k8, k9, k10, k11⟩ := mc_cell hM
  have hA := h.app
  rw [hap] at hA
  obtain ⟨hp, xs, hxs, hrw⟩ := hA
  rw [happ] at k4
  have g0 : w.cell? ⟨g, 0, none⟩ = some (.string z) := by rw [cell_of_block hg]; rfl
  have g1 : w.cell? ⟨g, 1, none⟩ = some (.int .i64 (1 : Nat)) := by rw [cell_of_block hg]; rfl
  have g2 : w.cell? ⟨g, 2, none⟩ = some (.func (.func 215) #[] #[ptrV mb, ptrV fb]) := by rw [cell_of_block hg]; rfl
  have m0 : w.cell? ⟨mb, 0, none⟩ = some (ptrV M) := by rw [cell_of_block hmb]; rfl
  have f0 : w.cell? ⟨fb, 0, none⟩ = some (.func (.func 171) #[ptrV M] #[]) := by rw [cell_of_block hfb]; rfl
  have nmb : mb ≠ M := ne_types hmb hM (by decide)
  have nfb : fb ≠ M := ne_types hfb hM (fun e => by subst e; exact absurd hT (by decide))
  have h2 := h.drew.drew
  have h3 := h2.drew
  obtain ⟨a1, x1, rfl, rfl, hx1⟩ := vxs_one hxs ha
  obtain ⟨gv, off, cap, c, rfl, hgv, c0⟩ := rw_one hrw
  have ngv : gv ≠ M := ne_types hgv hM (by decide)
  obtain ⟨t, y, rfl⟩ := hx1.form
  obtain ⟨en, r, hs, hgs⟩ := giveS_ne _ _ hn
  obtain ⟨E, gf0, hf0, hG⟩ := h2.giveOk hM en r hs
  refine (apply_ok_ofOne w M g 1 cap mb fb 0 0 n z _ (fun w' => w' = giveW w.drew.drew.drew M gf0 en.nx (.iface 131 (.bool (sameV a1 .empty)))) k4 k5 g0 g1 g2 (hide ((do_isEmpty w.drew.drew M E gf0 mb fb gv off cap en.nx s.pc _ _ t y _ hG m0 f0 nmb nfb ngv c0 (eql_empty hx1)).mono fun e w' hh => hh))).mono ?_
  rintro e w' ⟨rfl, rfl⟩
  obtain ⟨X', ow', hMR, hGw⟩ := h3.given hM en r hs gf0 hf0 (.bool (sameV a1 .empty)) _ _ rfl
  show StepPost B K X ow w M b C (giveS _ _) _ _
  rw [hgs]
  exact ⟨rfl, X', ow', hMR, (Gw.drew.trans (Gw.drew.trans Gw.drew)).trans hGw⟩
theorem app_not {B K : Nat} {w : World} {X : Nat → Prop} {ow mo mf : Nat → Option Nat} {M b : Nat} {C : Cd} {s : MS} {val app args out : Value} {top : Option Addr} {gf : Nat} (h : RS B K w X ow mo mf M b C s val app args out top gf) (hM : w.heap[M]? = some (Obj.cells (mcC b s.pc val (ptrV gf) app args (.pointer top) out 0 0 0 ⟨#[]⟩) 119 (0, 0))) (n : Int) (id g mb fb : Nat) (z : ByteArray) (T : TypeId) (hT : MT.contains T = false) (a : List V) (hap : s.app = some (.proc id, a)) (happ : app = .iface 216 (.pointer (some ⟨g, 0, none⟩))) (hg : w.heap[g]? = some (Obj.cells #[.string z, .int .i64 (1 : Nat), .func (.func 215) #[] #[ptrV mb, ptrV fb]] 220 (0, 0))) (hmb : Box w mb 73 (ptrV M)) (hfb : Box w fb T (.func (.func 173) #[ptrV M] #[])) (ha : a.length = 1) (hn : firstS C { s with app := none } 10 a ≠ .bad) :
    Calls Tryz.prog 128 #[.pointer (some ⟨M, 0, none⟩), .int .i64 n] w (StepPost B K X ow w M b C (firstS C { s with app := none } 10 a)) := by
  obtain ⟨k0, k1, k2, k3, k4, k5, k6, k7, k8, k9, k10, k11⟩ := mc_cell hM
  have hA := h.app
  rw [hap] at hA
  obtain ⟨hp, xs, hxs, hrw⟩ := hA
  rw [happ] at k4
  have g0 : w.cell? ⟨g, 0, none⟩ = some (.string z) := by rw [cell_of_block hg]; rfl
  have g1 : w.cell? ⟨g, 1, none⟩ = some (.int .i64 (1 : Nat)) := by rw [cell_of_block hg]; rfl
  have g2 : w.cell? ⟨g, 2, none⟩ = some (.func (.func 215) #[] #[ptrV mb, ptrV fb]) := by rw [cell_of_block hg]; rfl
  have m0 : w.cell? ⟨mb, 0, none⟩ = some (ptrV M) := by rw [cell_of_block hmb]; rfl
  have f0 : w.cell? ⟨fb, 0, none⟩ = some (.func (.func 173) #[ptrV M] #[]) := by rw [cell_of_block hfb]; rfl
  have nmb : mb ≠ M := ne_types hmb hM (by decide)
  have nfb : fb ≠ M := ne_types hfb hM (fun e => by subst e; exact absurd hT (by decide))
  have h2 := h.drew.drew
  have h3 := h2.drew
  obtain ⟨a1, x1, rfl, rfl, hx1⟩ := vxs_one hxs ha
  obtain ⟨gv, off, cap, c, rfl, hgv, c0⟩ := rw_one hrw
  have ngv : gv ≠ M := ne_types hgv hM (by decide)
  obtain ⟨t, y, rfl⟩ := hx1.form
  obtain ⟨en, r, hs, hgs⟩ := giveS_ne _ _ hn
  obtain ⟨E, gf0, hf0, hG⟩ := h2.giveOk hM en r hs
  refine (apply_ok_ofOne w M g 1 cap mb fb 0 0 n z _ (fun w' => w' = giveW w.drew.drew.drew M gf0 en.nx (.iface 131 (.bool (sameV a1 (.bool false))))) k4 k5 g0 g1 g2 (hide ((do_not w.drew.drew M E gf0 mb fb gv off cap en.nx s.pc _ _ t y _ hG m0 f0 nmb nfb ngv c0 (eql_false hx1)).mono fun e w' hh => hh))).mono ?_
  rintro e w' ⟨rfl, rfl⟩
  obtain ⟨X', ow', hMR, hGw⟩ := h3.given hM en r hs gf0 hf0 (.bool (sameV a1 (.bool false))) _ _ rfl
  show StepPost B K X ow w M b C (giveS _ _) _ _
  rw [hgs]
  exact ⟨rfl, X', ow', hMR, (Gw.drew.trans (Gw.drew.trans Gw.drew)).trans hGw⟩
theorem app_isPair {B K : Nat} {w : World} {X : Nat → Prop} {ow mo mf : Nat → Option Nat} {M b : Nat} {C : Cd} {s : MS} {val app args out : Value} {top : Option Addr} {gf : Nat} (h : RS B K w X ow mo mf M b C s val app args out top gf) (hM : w.heap[M]? = some (Obj.cells (mcC b s.pc val (ptrV gf) app args (.pointer top) out 0 0 0 ⟨#[]⟩) 119 (0, 0))) (n : Int) (id g mb fb : Nat) (z : ByteArray) (T : TypeId) (hT : MT.contains T = false) (a : List V) (hap : s.app = some (.proc id, a)) (happ : app = .iface 216 (.pointer (some ⟨g, 0, none⟩))) (hg : w.heap[g]? = some (Obj.cells #[.string z, .int .i64 (1 : Nat), .func (.func 215) #[] #[ptrV mb, ptrV fb]] 220 (0, 0))) (hmb : Box w mb 73 (ptrV M)) (hfb : Box w fb T (.func (.func 172) #[ptrV M] #[])) (ha : a.length = 1) (hn : firstS C { s with app := none } 9 a ≠ .bad) :
    Calls Tryz.prog 128 #[.pointer (some ⟨M, 0, none⟩), .int .i64 n] w (StepPost B K X ow w M b C (firstS C { s with app := none } 9 a)) := by
  obtain ⟨k0, k1, k2, k3, k4, k5, k6, k7, k8, k9, k10, k11⟩ := mc_cell hM
  have hA := h.app
  rw [hap] at hA
  obtain ⟨hp, xs, hxs, hrw⟩ := hA
  rw [happ] at k4
  have g0 : w.cell? ⟨g, 0, none⟩ = some (.string z) := by rw [cell_of_block hg]; rfl
  have g1 : w.cell? ⟨g, 1, none⟩ = some (.int .i64 (1 : Nat)) := by rw [cell_of_block hg]; rfl
  have g2 : w.cell? ⟨g, 2, none⟩ = some (.func (.func 215) #[] #[ptrV mb, ptrV fb]) := by rw [cell_of_block hg]; rfl
  have m0 : w.cell? ⟨mb, 0, none⟩ = some (ptrV M) := by rw [cell_of_block hmb]; rfl
  have f0 : w.cell? ⟨fb, 0, none⟩ = some (.func (.func 172) #[ptrV M] #[]) := by rw [cell_of_block hfb]; rfl
  have nmb : mb ≠ M := ne_types hmb hM (by decide)
  have nfb : fb ≠ M := ne_types hfb hM (fun e => by subst e; exact absurd hT (by decide))
  have h2 := h.drew.drew
  have h3 := h2.drew
  obtain ⟨a1, x1, rfl, rfl, hx1⟩ := vxs_one hxs ha
  obtain ⟨gv, off, cap, c, rfl, hgv, c0⟩ := rw_one hrw
  have ngv : gv ≠ M := ne_types hgv hM (by decide)
  obtain ⟨t, y, rfl⟩ := hx1.form
  obtain ⟨rb, pv, hq, hfs⟩ : ∃ rb pv, (∀ W, (Instr.typeAssert (.iface t y) 81 136 true).run Tryz.prog W = .ok (.tuple #[pv, .bool rb]) W) ∧ firstS C { s with app := none } 9 [a1] = giveS { s with app := none } (.bool rb) := by
    by_cases hi : ∃ i p q, a1 = .pair i p q
    · obtain ⟨i, p, q, rfl⟩ := hi
      obtain ⟨gp, u, v, hgp, e, hbp, hu, hv⟩ := hx1
      cases e
      exact ⟨true, _, fun W => pair_is _ W, rfl⟩
    · have hi' : ∀ i p q, a1 ≠ .pair i p q := fun i p q e => hi ⟨i, p, q, e⟩
      exact ⟨false, _, fun W => noPair hx1 hi' W, by cases a1 <;> first | rfl | exact absurd rfl (hi' _ _ _)⟩
  rw [hfs] at hn ⊢
  obtain ⟨en, r, hs, hgs⟩ := giveS_ne _ _ hn
  obtain ⟨E, gf0, hf0, hG⟩ := h2.giveOk hM en r hs
  refine (apply_ok_ofOne w M g 1 cap mb fb 0 0 n z _ (fun w' => w' = giveW w.drew.drew.drew M gf0 en.nx (.iface 131 (.bool rb))) k4 k5 g0 g1 g2 (hide ((do_isPair w.drew.drew M E gf0 mb fb gv off cap en.nx s.pc _ _ t y _ _ hG m0 f0 nmb nfb ngv c0 hq).mono fun e w' hh => hh))).mono ?_
  rintro e w' ⟨rfl, rfl⟩
  obtain ⟨X', ow', hMR, hGw⟩ := h3.given hM en r hs gf0 hf0 (.bool rb) _ _ rfl
  rw [hgs]
  exact ⟨rfl, X', ow', hMR, (Gw.drew.trans (Gw.drew.trans Gw.drew)).trans hGw⟩
theorem app_same {B K : Nat} {w : World} {X : Nat → Prop} {ow mo mf : Nat → Option Nat} {M b : Nat} {C : Cd} {s : MS} {val app args out : Value} {top : Option Addr} {gf : Nat} (h : RS B K w X ow mo mf M b C s val app args out top gf) (hM : w.heap[M]? = some (Obj.cells (mcC b s.pc val (ptrV gf) app args (.pointer top) out 0 0 0 ⟨#[]⟩) 119 (0, 0))) (n : Int) (id g mb fb : Nat) (z : ByteArray) (T : TypeId) (hT : MT.contains T = false) (a : List V) (hap : s.app = some (.proc id, a)) (happ : app = .iface 216 (.pointer (some ⟨g, 0, none⟩))) (hg : w.heap[g]? = some (Obj.cells #[.string z, .int .i64 (2 : Nat), .func (.func 213) #[] #[ptrV mb, ptrV fb]] 220 (0, 0))) (hmb : Box w mb 73 (ptrV M)) (hfb : Box w fb T (.func (.func 174) #[ptrV M] #[])) (ha : a.length = 2) (hn : firstS C { s with app := none } 11 a ≠ .bad) :
    Calls Tryz.prog 128 #[.pointer (some ⟨M, 0, none⟩), .int .i64 n] w (StepPost B K X ow w M b C (firstS C { s with app := none } 11 a)) := by
  obtain ⟨k0, k1, k2, k3, k4, k5, k6, k7, k8, k9, k10, k11⟩ := mc_cell hM
  have hA := h.app
  rw [hap] at hA
  obtain ⟨hp, xs, hxs, hrw⟩ := hA
  rw [happ] at k4
  have g0 : w.cell? ⟨g, 0, none⟩ = some (.string z) := by rw [cell_of_block hg]; rfl
  have g1 : w.cell? ⟨g, 1, none⟩ = some (.int .i64 (2 : Nat)) := by rw [cell_of_block hg]; rfl
  have g2 : w.cell? ⟨g, 2, none⟩ = some (.func (.func 213) #[] #[ptrV mb, ptrV fb]) := by rw [cell_of_block hg]; rfl
  have m0 : w.cell? ⟨mb, 0, none⟩ = some (ptrV M) := by rw [cell_of_block hmb]; rfl
  have f0 : w.cell? ⟨fb, 0, none⟩ = some (.func (.func 174) #[ptrV M] #[]) := by rw [cell_of_block hfb]; rfl
  have nmb : mb ≠ M := ne_types hmb hM (by decide)
  have nfb : fb ≠ M := ne_types hfb hM (fun e => by subst e; exact absurd hT (by decide))
  have h2 := h.drew.drew
  have h3 := h2.drew
  obtain ⟨a1, a2, x1, x2, rfl, rfl, hx1, hx2⟩ := vxs_two hxs ha
  obtain ⟨gv, off, cap, c, rfl, hgv, c0, c1⟩ := rw_two hrw
  have ngv : gv ≠ M := ne_types hgv hM (by decide)
  obtain ⟨t, y, rfl⟩ := hx1.form
  obtain ⟨t2, y2, rfl⟩ := hx2.form
  obtain ⟨en, r, hs, hgs⟩ := giveS_ne _ _ hn
  obtain ⟨E, gf0, hf0, hG⟩ := h2.giveOk hM en r hs
  have hk3 : Keep 205 w w.drew.drew.drew := fun _ _ hx => hx
  refine (apply_ok_ofTwo w M g 2 cap mb fb 0 0 n z _ (fun w' => w' = giveW w.drew.drew.drew M gf0 en.nx (.iface 131 (.bool (sameV a1 a2)))) k4 k5 g0 g1 g2 (hide ((do_same1 w.drew.drew M E gf0 mb fb gv off cap en.nx s.pc _ _ t t2 y y2 _ hG m0 f0 nmb nfb ngv c0 c1 (eql_V h3.inj h3.mcl a1 a2 _ _ (VX.keep hk3 (Le.refl _) _ _ hx1) (VX.keep hk3 (Le.refl _) _ _ hx2))).mono fun e w' hh => hh))).mono ?_
  rintro e w' ⟨rfl, rfl⟩
  obtain ⟨X', ow', hMR, hGw⟩ := h3.given hM en r hs gf0 hf0 (.bool (sameV a1 a2)) _ _ rfl
  show StepPost B K X ow w M b C (giveS _ _) _ _
  rw [hgs]
  exact ⟨rfl, X', ow', hMR, (Gw.drew.trans (Gw.drew.trans Gw.drew)).trans hGw⟩
theorem app_cons {B K : Nat} {w : World} {X : Nat → Prop} {ow mo mf : Nat → Option Nat} {M b : Nat} {C : Cd} {s : MS} {val app args out : Value} {top : Option Addr} {gf : Nat} (h : RS B K w X ow mo mf M b C s val app args out top gf) (hM : w.heap[M]? = some (Obj.cells (mcC b s.pc val (ptrV gf) app args (.pointer top) out 0 0 0 ⟨#[]⟩) 119 (0, 0))) (n : Int) (id g mb fb : Nat) (z : ByteArray) (T : TypeId) (hT : MT.contains T = false) (a : List V) (hap : s.app = some (.proc id, a)) (happ : app = .iface 216 (.pointer (some ⟨g, 0, none⟩))) (hg : w.heap[g]? = some (Obj.cells #[.string z, .int .i64 (2 : Nat), .func (.func 213) #[] #[ptrV mb, ptrV fb]] 220 (0, 0))) (hmb : Box w mb 73 (ptrV M)) (hfb : Box w fb T (.func (.func 166) #[ptrV M] #[])) (ha : a.length = 2) (hn : firstS C { s with app := none } 5 a ≠ .bad) :
    Calls Tryz.prog 128 #[.pointer (some ⟨M, 0, none⟩), .int .i64 n] w (StepPost B K X ow w M b C (firstS C { s with app := none } 5 a)) := by
  obtain ⟨k0, k1, k2, k3, k4, k5, k6, k7, k8, k9, k10, k11⟩ := mc_cell hM
  have hA := h.app
  rw [hap] at hA
  obtain ⟨hp, xs, hxs, hrw⟩ := hA
  rw [happ] at k4
  have g0 : w.cell? ⟨g, 0, none⟩ = some (.string z) := by rw [cell_of_block hg]; rfl
  have g1 : w.cell? ⟨g, 1, none⟩ = some (.int .i64 (2 : Nat)) := by rw [cell_of_block hg]; rfl
  have g2 : w.cell? ⟨g, 2, none⟩ = some (.func (.func 213) #[] #[ptrV mb, ptrV fb]) := by rw [cell_of_block hg]; rfl
  have m0 : w.cell? ⟨mb, 0, none⟩ = some (ptrV M) := by rw [cell_of_block hmb]; rfl
  have f0 : w.cell? ⟨fb, 0, none⟩ = some (.func (.func 166) #[ptrV M] #[]) := by rw [cell_of_block hfb]; rfl
  have nmb : mb ≠ M := ne_types hmb hM (by decide)
  have nfb : fb ≠ M := ne_types hfb hM (fun e => by subst e; exact absurd hT (by decide))
  have h2 := h.drew.drew
  have h3 := h2.drew
  obtain ⟨a1, a2, x1, x2, rfl, rfl, hx1, hx2⟩ := vxs_two hxs ha
  obtain ⟨gv, off, cap, c, rfl, hgv, c0, c1⟩ := rw_two hrw
  have ngv : gv ≠ M := ne_types hgv hM (by decide)
  obtain ⟨t, y, rfl⟩ := hx1.form
  obtain ⟨t2, y2, rfl⟩ := hx2.form
  obtain ⟨en, r, hs, hgs⟩ := giveS_ne _ _ hn
  obtain ⟨E, gf0, hf0, hG⟩ := h2.giveOk hM en r hs
  refine (apply_ok_ofTwo w M g 2 cap mb fb 0 0 n z _ (fun w' => w' = giveW (w.drew.drew.drew.alloc (.cells #[.iface t y, .iface t2 y2] 205)) M gf0 en.nx (.iface 136 (.pointer (some ⟨w.heap.size, 0, none⟩)))) k4 k5 g0 g1 g2 (hide ((do_cons w.drew.drew M E gf0 mb fb gv off cap en.nx s.pc _ _ t t2 y y2 hG m0 f0 nmb nfb ngv (lt_of_some hmb) (lt_of_some hfb) (lt_of_some hgv) c0 c1).mono fun e w' hh => hh))).mono ?_
  rintro e w' ⟨rfl, rfl⟩
  have hb4 : Below w.heap.size w (w.drew.drew.drew.alloc (.cells #[.iface t y, .iface t2 y2] 205)) := ((((Below.refl _ w).drew).drew).drew).alloc (Nat.le_refl _) _
  have hM4 : (w.drew.drew.drew.alloc (.cells #[.iface t y, .iface t2 y2] 205)).heap[M]? = some (Obj.cells (mcC b s.pc val (ptrV gf) app (.slice (some ⟨gv, off, none⟩) 2 cap) (.pointer top) out 0 0 0 ⟨#[]⟩) 119 (0, 0)) := by rw [hb4.block M (lt_of_some hM)]; exact hM
  have hnew : (w.drew.drew.drew.alloc (.cells #[.iface t y, .iface t2 y2] 205)).heap[w.heap.size]? = some (Obj.cells #[.iface t y, .iface t2 y2] 205 (0, 0)) := by
    rw [heap_alloc_at, if_pos (show w.heap.size = w.drew.drew.drew.heap.size from rfl)]
  have h4 := (h.below hM hb4).obj w.heap.size (lt_of_some hnew) (fun i hi => by have := h.mlt i _ hi; omega) ⟨_, _, hnew, by decide⟩ none (fun p hp => by cases hp)
  have hkp : Keep 205 w (w.drew.drew.drew.alloc (.cells #[.iface t y, .iface t2 y2] 205)) := Keep.of_below hb4
  have hmo : mo (2 * s.obs.length) = none := by
    cases e : mo (2 * s.obs.length) with
    | none => rfl
    | some g' => exact absurd (h.mdm _ _ e) (by omega)
  have hle := upd1_le mo (2 * s.obs.length) w.heap.size hmo
  obtain ⟨X', ow', hMR, hGw⟩ := h4.given hM4 en r hs gf0 hf0 (.pair (2 * s.obs.length) a1 a2) _ _ ⟨w.heap.size, _, _, upd1_at _ _ _, rfl, hnew, VX.keep hkp hle _ _ hx1, VX.keep hkp hle _ _ hx2⟩
  show StepPost B K X ow w M b C (giveS _ _) _ _
  rw [hgs]
  exact ⟨rfl, X', ow', hMR, Gw.trans ⟨Upd.of_below _ hb4, fun _ _ h _ => h, fun _ _ h => h, fun _ _ h => h⟩ hGw⟩
end Go.Proofs.YtlobegpjenabaaaGreatDoor
