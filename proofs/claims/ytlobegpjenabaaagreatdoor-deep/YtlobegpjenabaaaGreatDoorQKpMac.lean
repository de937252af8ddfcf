/- A machine of package lathe: Run and Look, as it stands. -/
import Derived.Test.YtlobegpjenabaaaGreatDoorK36
namespace Go.Proofs.YtlobegpjenabaaaGreatDoor
open Go.RowKit
set_option linter.unusedSimpArgs false
set_option linter.unusedVariables false

/-- Behind a Run that is held. -/
def HeldP (B K : Nat) (w : World) (L M b : Nat) (C : Cd) (n : Nat) (s' : MS) (x y : Value) (w2 : World) : Prop := x = .int .i64 (n : Nat) ∧ y = .int .i64 0 ∧ LM w2 L M ∧ Below B w w2 ∧ ∃ X' ow', MR B K w2 X' ow' M b C s'
theorem mrun_run {B K : Nat} {w : World} {X : Nat → Prop} {ow : Nat → Option Nat} {L M b : Nat} {C : Cd} {s s' : MS} (h : MR B K w X ow M b C s) (hL : LM w L M) (n F : Nat) (hn : n ≤ 100000) (hg : goS C F s n 0 = some (n, .run s')) :
    Calls Tryz.prog 27 #[.pointer (some ⟨L, 0, none⟩), .int .i64 n] w (TupP (HeldP B K w L M b C n s')) := by
  refine lrun_go w L M n _ hL (hide ((run_go h n F hn n (.run s') hg (fun _ _ _ e => by cases e)).mono ?_))
  rintro e w2 ⟨rfl, X', ow', hM, hG⟩
  exact ⟨_, _, rfl, rfl, rfl, h.ki hG _ (by decide) _ _ hL, h.bel hG, X', ow', hM⟩
/-- Behind a Run at whose end the program is done. -/
def DoneP (B : Nat) (w : World) (L M b m : Nat) (t : List UInt8) (o : List (List UInt8)) (x y : Value) (w2 : World) : Prop := x = .int .i64 (m : Nat) ∧ y = .int .i64 0 ∧ LM w2 L M ∧ Below B w w2 ∧ ∃ X' ow', ME B w2 X' ow' M b 1 0 0 t o
theorem mrun_done {B K : Nat} {w : World} {X : Nat → Prop} {ow : Nat → Option Nat} {L M b : Nat} {C : Cd} {s : MS} {t : List UInt8} {o : List (List UInt8)} (h : MR B K w X ow M b C s) (hL : LM w L M) (n m F : Nat) (hn : n ≤ 100000) (hg : goS C F s n 0 = some (m, .done t o)) :
    Calls Tryz.prog 27 #[.pointer (some ⟨L, 0, none⟩), .int .i64 n] w (TupP (DoneP B w L M b m t o)) := by
  refine lrun_go w L M n _ hL (hide ((run_go h n F hn m (.done t o) hg (fun _ _ _ e => by cases e)).mono ?_))
  rintro e w2 ⟨rfl, X', ow', hM, hG⟩
  exact ⟨_, _, rfl, rfl, rfl, h.ki hG _ (by decide) _ _ hL, h.bel hG, X', ow', hM⟩
theorem mlook_run {B K : Nat} {w : World} {X : Nat → Prop} {ow : Nat → Option Nat} {L M b : Nat} {C : Cd} {s : MS} (h : MR B K w X ow M b C s) (hL : LM w L M) (hs : 0 < s.st.length) :
    Calls Tryz.prog 28 #[.pointer (some ⟨L, 0, none⟩)] w (LookP w 0 0 ((s.st.length - 1 : Nat) : Int) ⟨#[]⟩) := by
  obtain ⟨mo, mf, val, app, args, out, top, gf, hM, hR⟩ := h
  obtain ⟨k0, k1, k2, k3, k4, k5, k6, k7, k8, k9, k10, k11⟩ := mc_cell hM
  have hMl := lt_of_some hM
  have hst := hR.st
  cases hq : s.st with
  | nil => rw [hq] at hs; simp at hs
  | cons e r =>
    rw [hq] at hst
    obtain ⟨g, q, gf', got, rfl, hE, _⟩ := hst
    have hEl := lt_of_some hE
    have e1 := cell_of_block hE 1
    simp only [enC, List.getElem?_toArray, List.getElem?_cons_zero, List.getElem?_cons_succ] at e1
    have hd : (((e :: r).length - 1 : Nat) : Int) = (r.length : Int) := by simp
    rw [hd]
    refine llook_go w L M 0 0 r.length ⟨#[]⟩ hL (hide fun ob => ?_)
    exact look_run _ M g r.length (by simp; omega) (by simp; omega) ((World.cell?_alloc_past _ _ _ hMl).trans k8) ((World.cell?_alloc_past _ _ _ hMl).trans k6) ((World.cell?_alloc_past _ _ _ hEl).trans e1)
theorem mlook_end {B : Nat} {w : World} {X : Nat → Prop} {ow : Nat → Option Nat} {L M b : Nat} {st er de : Int} {t : List UInt8} {o : List (List UInt8)} (hst : (st == 0) = false) (h : ME B w X ow M b st er de t o) (hL : LM w L M) :
    Calls Tryz.prog 28 #[.pointer (some ⟨L, 0, none⟩)] w (LookP w st er de ⟨t.toArray⟩) := by
  obtain ⟨out, hM, _⟩ := h
  obtain ⟨k0, k1, k2, k3, k4, k5, k6, k7, k8, k9, k10, k11⟩ := mc_cell hM
  have hMl := lt_of_some hM
  refine llook_go w L M st er de ⟨t.toArray⟩ hL (hide fun ob => ?_)
  exact look_end _ M st er de ⟨t.toArray⟩ hst (by simp; omega) ((World.cell?_alloc_past _ _ _ hMl).trans k8) ((World.cell?_alloc_past _ _ _ hMl).trans k9) ((World.cell?_alloc_past _ _ _ hMl).trans k10) ((World.cell?_alloc_past _ _ _ hMl).trans k11)
/-- started, of a text that is compiled. -/
theorem started_says {S : ByteArray} {l : List UInt8} {N : Nat} {st : BS} (hc : Comp l N st) (hS : S.data.toList = l) (W : World) (hW : Env W) : Calls Tryz.prog 26 #[.string S] W (StartedP W N st) := by
  have hl : l.length ≤ 1000 := by
    have h1 := hc.1
    unfold compS at h1
    split at h1
    · cases h1
    · omega
  rw [← hS] at hl
  exact started_go S N st (by rw [hS]; exact hc) (by unfold maxLen; have : S.data.toList.length = S.size := by simp
                                                     omega) W hW.mx hW.tb
end Go.Proofs.YtlobegpjenabaaaGreatDoor
