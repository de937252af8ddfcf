/- The kinds of instructions, as they walk, III: procedures. -/
import Derived.Test.YtlobegpjenabaaaGreatDoorL01
import Derived.Deep.RegionWith
import Derived.BigRegion
import Derived.Test.YtlobegpjenabaaaGreatDoorL21
namespace Go.Proofs.YtlobegpjenabaaaGreatDoor
open Go.RowKit
set_option linter.unusedSimpArgs false
set_option linter.unusedVariables false

theorem heap_alloc_at (w : World) (o : Obj) (k : Nat) : (w.alloc o).heap[k]? = if k = w.heap.size then some o else w.heap[k]? := by
  show (w.heap.push o)[k]? = _
  rw [Array.getElem?_push]
theorem heap_drew_at (w : World) (k : Nat) : w.drew.heap[k]? = w.heap[k]? := rfl
theorem size_drew_at (w : World) : w.drew.heap.size = w.heap.size := rfl
theorem heap_set_ne (w : World) (b o k : Nat) (v : Value) (h : k ≠ b) : (w.setCell ⟨b, o, none⟩ v).heap[k]? = w.heap[k]? := Below.heap_setCell _ _ _ _ h
theorem alloc5 (w : World) (a b c d e : Obj) (M : Nat) (v : Value) (hl : M < w.heap.size) (W : World) (hW : W = ((((((w.alloc a).alloc b).alloc c).alloc d).alloc e).setCell ⟨M, 2, none⟩ v).drew) :
    W.heap[w.heap.size]? = some a ∧ W.heap[w.heap.size + 1]? = some b ∧ W.heap[w.heap.size + 1 + 1]? = some c ∧ W.heap[w.heap.size + 1 + 1 + 1]? = some d ∧ W.heap[w.heap.size + 1 + 1 + 1 + 1]? = some e ∧ (∀ k, k < w.heap.size → k ≠ M → W.heap[k]? = w.heap[k]?) ∧ (∀ c T, w.heap[M]? = some (Obj.cells c T (0, 0)) → W.heap[M]? = some (Obj.cells (c.setIfInBounds 2 v) T (0, 0))) ∧ W.os = w.os ∧ W.tape = w.tape ∧ W.output = w.output ∧ w.heap.size ≤ W.heap.size := by
  have hk : ∀ k, k ≠ M → W.heap[k]? = (((((w.alloc a).alloc b).alloc c).alloc d).alloc e).heap[k]? := fun k hk => by rw [hW, heap_drew_at, heap_set_ne _ _ _ _ _ hk]
  have hs : ∀ (w : World) (o : Obj), (w.alloc o).heap.size = w.heap.size + 1 := fun w o => by simp
  refine ⟨?_, ?_, ?_, ?_, ?_, fun k h1 h2 => ?_, fun c' T h => ?_, ?_, ?_, ?_, ?_⟩
  · rw [hk _ (by omega)]; simp only [heap_alloc_at, hs]; repeat first | rw [if_pos trivial] | rw [if_neg (by omega)]
  · rw [hk _ (by omega)]; simp only [heap_alloc_at, hs]; repeat first | rw [if_pos trivial] | rw [if_neg (by omega)]
  · rw [hk _ (by omega)]; simp only [heap_alloc_at, hs]; repeat first | rw [if_pos trivial] | rw [if_neg (by omega)]
  · rw [hk _ (by omega)]; simp only [heap_alloc_at, hs]; repeat first | rw [if_pos trivial] | rw [if_neg (by omega)]
  · rw [hk _ (by omega)]; simp only [heap_alloc_at, hs]; repeat first | rw [if_pos trivial] | rw [if_neg (by omega)]
  · rw [hk k h2]; simp only [heap_alloc_at, hs]
    rw [if_neg (by omega), if_neg (by omega), if_neg (by omega), if_neg (by omega), if_neg (by omega)]
  · rw [hW, heap_drew_at]
    refine heap_setCell_same ?_
    simp only [heap_alloc_at, hs]
    rw [if_neg (by omega), if_neg (by omega), if_neg (by omega), if_neg (by omega), if_neg (by omega)]; exact h
  · rw [hW]; rfl
  · rw [hW]; rfl
  · rw [hW]; rfl
  · rw [hW, size_drew_at]; simp; omega
/-- A procedure of a lambda has been made. -/
def LamPost (w : World) (M gf : Nat) (z : ByteArray) (u : Value) (nl : Nat) (e : Nat) (en : Ending) (w' : World) : Prop :=
  ∃ g nb lb ob mb z', en = .returned .nilIface ∧ w.heap.size ≤ g ∧ w.heap.size ≤ nb ∧ (∀ k, k < w.heap.size → k ≠ M → w'.heap[k]? = w.heap[k]?) ∧ (∀ c, w.heap[M]? = some (Obj.cells c 119 (0, 0)) → w'.heap[M]? = some (Obj.cells (c.setIfInBounds 2 (.iface 216 (.pointer (some ⟨g, 0, none⟩)))) 119 (0, 0))) ∧ w'.os = w.os ∧ w'.tape = w.tape ∧ w'.output = w.output ∧ w.heap.size ≤ w'.heap.size ∧
    w'.heap[g]? = some (Obj.cells #[.string z', .int .i64 nl, .func (.func 192) #[] #[.pointer (some ⟨nb, 0, none⟩), .pointer (some ⟨lb, 0, none⟩), .pointer (some ⟨ob, 0, none⟩), .pointer (some ⟨mb, 0, none⟩)]] 220 (0, 0)) ∧
    w'.heap[nb]? = some (Obj.cells #[.string z'] 9 (0, 0)) ∧ w'.heap[lb]? = some (Obj.cells #[.string z, u, .int .i64 e] 213 (0, 0)) ∧ w'.heap[ob]? = some (Obj.cells #[.pointer (some ⟨gf, 0, none⟩)] 112 (0, 0)) ∧ w'.heap[mb]? = some (Obj.cells #[.pointer (some ⟨M, 0, none⟩)] 73 (0, 0))
set_option maxRecDepth 100000 in
set_option maxHeartbeats 1000000 in
theorem lambda_raw (w : World) (M b g len cap gf nl cl : Nat) (n : Nat) (z : ByteArray) (v2 : Value) (e : Nat) (hl : M < w.heap.size) (hb : b < w.heap.size) (hg : g < w.heap.size) (k0 : w.cell? ⟨M, 0, none⟩ = some (.pointer (some ⟨b, 0, none⟩))) (k2 : w.cell? ⟨M, 2, none⟩ = some v2) (f2 : w.frozen? ⟨M, 2, none⟩ = false) (k3 : w.cell? ⟨M, 3, none⟩ = some (.pointer (some ⟨gf, 0, none⟩)))
    (b3 : w.cell? ⟨b, 3, none⟩ = some (.slice (some ⟨g, 0, none⟩) len cap)) (hn : n < len) (hlen : len ≤ 1000000) (u : Option Addr) (x0 : w.cell? ⟨g, n * 3, none⟩ = some (.string z)) (x1 : w.cell? ⟨g, n * 3 + 1, none⟩ = some (.slice u nl cl)) (x2 : w.cell? ⟨g, n * 3 + 2, none⟩ = some (.int .i64 e)) :
    Calls Tryz.prog 119 #[.pointer (some ⟨M, 0, none⟩), .int .i64 n] w (LamPost w M gf z (.slice u nl cl) nl e) := by
  have hmf : ∀ (fn : Fn) (first cap : Array Value) (w : World), (Instr.makeFunc fn first cap).run Tryz.prog w = .ok (.func fn first cap) w := fun _ _ _ _ => rfl
  have hlt : ∀ (k i : Nat) (o1 o2 o3 : Obj), k < w.heap.size → (((w.alloc o1).alloc o2).alloc o3).cell? ⟨k, i, none⟩ = w.cell? ⟨k, i, none⟩ := fun k i o1 o2 o3 hk => by
    rw [World.cell?_alloc_past _ _ _ (by simp; omega), World.cell?_alloc_past _ _ _ (by simp; omega), World.cell?_alloc_past _ _ _ hk]
  have q0 : ∀ o1 o2 o3, (((w.alloc o1).alloc o2).alloc o3).cell? ⟨M, 0, none⟩ = some (.pointer (some ⟨b, 0, none⟩)) := fun o1 o2 o3 => (hlt M 0 o1 o2 o3 hl).trans k0
  have q3 : ∀ o1 o2 o3, (((w.alloc o1).alloc o2).alloc o3).cell? ⟨M, 3, none⟩ = some (.pointer (some ⟨gf, 0, none⟩)) := fun o1 o2 o3 => (hlt M 3 o1 o2 o3 hl).trans k3
  have q4 : ∀ o1 o2 o3, (((w.alloc o1).alloc o2).alloc o3).cell? ⟨b, 3, none⟩ = some (.slice (some ⟨g, 0, none⟩) len cap) := fun o1 o2 o3 => (hlt b 3 o1 o2 o3 hb).trans b3
  have q5 : ∀ o1 o2 o3, (((w.alloc o1).alloc o2).alloc o3).cell? ⟨g, n * 3, none⟩ = some (.string z) := fun o1 o2 o3 => (hlt g _ o1 o2 o3 hg).trans x0
  have q6 : ∀ o1 o2 o3, (((w.alloc o1).alloc o2).alloc o3).cell? ⟨g, n * 3 + 1, none⟩ = some (.slice u nl cl) := fun o1 o2 o3 => (hlt g _ o1 o2 o3 hg).trans x1
  have q7 : ∀ o1 o2 o3, (((w.alloc o1).alloc o2).alloc o3).cell? ⟨g, n * 3 + 2, none⟩ = some (.int .i64 e) := fun o1 o2 o3 => (hlt g _ o1 o2 o3 hg).trans x2
  have q2 : ∀ o1 o2 o3 o4 o5, (((((w.alloc o1).alloc o2).alloc o3).alloc o4).alloc o5).cell? ⟨M, 2, none⟩ = some v2 := fun o1 o2 o3 o4 o5 => by
    rw [World.cell?_alloc_past _ _ _ (by simp; omega), World.cell?_alloc_past _ _ _ (by simp; omega), hlt M 2 o1 o2 o3 hl]; exact k2
  have p2 : ∀ o1 o2 o3 o4 o5, (((((w.alloc o1).alloc o2).alloc o3).alloc o4).alloc o5).frozen? ⟨M, 2, none⟩ = false := fun o1 o2 o3 o4 o5 => by
    rw [World.frozen?_alloc_past _ _ _ (by simp; omega), World.frozen?_alloc_past _ _ _ (by simp; omega), World.frozen?_alloc_past _ _ _ (by simp; omega), World.frozen?_alloc_past _ _ _ (by simp; omega), World.frozen?_alloc_past _ _ _ hl]; exact f2
  clear hlt
  go_enter Tryz.func119, Tryz.ntmps119
  go_wp2
  go_region
  all_goals go_wp2
  all_goals go_ret
  all_goals obtain ⟨a1, a2, a3, a4, a5, a6, a7, a8, a9, a10, a11⟩ := alloc5 w _ _ _ _ _ M _ hl _ rfl
  all_goals first
    | exact ⟨_, _, _, _, _, _, rfl, by omega, by omega, a6, fun c hc => a7 c _ hc, a8, a9, a10, a11, a5, a4, a2, a3, a1⟩
    | exact ⟨_, _, _, _, _, _, rfl, by omega, by omega, a6, fun c hc => a7 c _ hc, a8, a9, a10, a11, a5, a4, a3, a2, a1⟩

set_option maxRecDepth 100000 in
set_option maxHeartbeats 1000000 in
theorem takeUp_raw (w : World) (M E gf tb mb gv off len cap : Nat) (n pc : Int) (t : TypeId) (x old v2 v6 : Value) (hME : E ≠ M) (k6 : w.cell? ⟨M, 6, none⟩ = some v6) (k1 : w.cell? ⟨M, 1, none⟩ = some (.int .i64 pc)) (k2 : w.cell? ⟨M, 2, none⟩ = some v2) (k3 : w.cell? ⟨M, 3, none⟩ = some old) (hf : ∀ o, w.frozen? ⟨M, o, none⟩ = false)
    (e3 : w.cell? ⟨E, 3, none⟩ = some (.int .i64 n)) (e2 : w.cell? ⟨E, 2, none⟩ = some (.pointer (some ⟨gf, 0, none⟩))) (t0 : w.cell? ⟨tb, 0, none⟩ = some (.pointer (some ⟨E, 0, none⟩))) (m0 : w.cell? ⟨mb, 0, none⟩ = some (.pointer (some ⟨M, 0, none⟩))) (hmb : mb ≠ M) (hgv : gv ≠ M) (hlen : 0 < len) (hc : len ≤ 1000000) (a0 : w.cell? ⟨gv, off, none⟩ = some (.iface t x)) :
    Calls Tryz.prog 231 #[.slice (some ⟨gv, off, none⟩) len cap, .pointer (some ⟨tb, 0, none⟩), .pointer (some ⟨mb, 0, none⟩)] w (RetW .nilIface ((((w.setCell ⟨M, 6, none⟩ (.pointer (some ⟨E, 0, none⟩))).setCell ⟨M, 2, none⟩ (.iface t x)).setCell ⟨M, 1, none⟩ (.int .i64 n)).setCell ⟨M, 3, none⟩ (.pointer (some ⟨gf, 0, none⟩))).drew.drew) := by
  have f6 := hf 6
  have g6 : (w.setCell ⟨M, 6, none⟩ (.pointer (some ⟨E, 0, none⟩))).cell? ⟨M, 6, none⟩ = some (.pointer (some ⟨E, 0, none⟩)) := World.cell?_setCell_same _ _ _ k6
  have g1 : (w.setCell ⟨M, 6, none⟩ (.pointer (some ⟨E, 0, none⟩))).cell? ⟨M, 1, none⟩ = some (.int .i64 pc) := (World.cell?_setCell_other _ _ _ _ (by simp)).trans k1
  have g2 : (w.setCell ⟨M, 6, none⟩ (.pointer (some ⟨E, 0, none⟩))).cell? ⟨M, 2, none⟩ = some v2 := (World.cell?_setCell_other _ _ _ _ (by simp)).trans k2
  have g3 : (w.setCell ⟨M, 6, none⟩ (.pointer (some ⟨E, 0, none⟩))).cell? ⟨M, 3, none⟩ = some old := (World.cell?_setCell_other _ _ _ _ (by simp)).trans k3
  have h3 : (w.setCell ⟨M, 6, none⟩ (.pointer (some ⟨E, 0, none⟩))).cell? ⟨E, 3, none⟩ = some (.int .i64 n) := (World.cell?_setCell_other _ _ _ _ (by simp)).trans e3
  have h2 : (w.setCell ⟨M, 6, none⟩ (.pointer (some ⟨E, 0, none⟩))).cell? ⟨E, 2, none⟩ = some (.pointer (some ⟨gf, 0, none⟩)) := (World.cell?_setCell_other _ _ _ _ (by simp)).trans e2
  have hm0 : (w.setCell ⟨M, 6, none⟩ (.pointer (some ⟨E, 0, none⟩))).cell? ⟨mb, 0, none⟩ = some (.pointer (some ⟨M, 0, none⟩)) := (World.cell?_setCell_other _ _ _ _ (by simp)).trans m0
  have ha0 : (w.setCell ⟨M, 6, none⟩ (.pointer (some ⟨E, 0, none⟩))).cell? ⟨gv, off, none⟩ = some (.iface t x) := (World.cell?_setCell_other _ _ _ _ (by simp [Ne.symm hgv])).trans a0
  have ff : ∀ o, (w.setCell ⟨M, 6, none⟩ (.pointer (some ⟨E, 0, none⟩))).frozen? ⟨M, o, none⟩ = false := fun o => (World.frozen?_setCell _ _ _ _).trans (hf o)
  have HC := hide (give_raw (w.setCell ⟨M, 6, none⟩ (.pointer (some ⟨E, 0, none⟩))).drew M E gf n pc t x old v2 hME g6 g1 g2 g3 (ff 1) (ff 2) (ff 3) h3 h2)
  clear g6 g1 g2 g3 ff h3 h2
  go_enter Tryz.func231, Tryz.ntmps231
  go_wp2_with fail
  go_region_with (go_at_call 212; refine HC.out.mono ?_; rintro e w' ⟨rfl, rfl⟩)
  all_goals (go_wp2; go_ret; exact ⟨rfl, rfl⟩)
end Go.Proofs.YtlobegpjenabaaaGreatDoor

/- One step of the machine in memory: what it comes to; the kinds that turn registers alone. -/
namespace Go.Proofs.YtlobegpjenabaaaGreatDoor
open Go.RowKit
set_option linter.unusedSimpArgs false
set_option linter.unusedVariables false

/-- How memory goes on: own blocks alone have turned, new ones may be own. -/
structure Gw (X : Nat → Prop) (ow : Nat → Option Nat) (w : World) (X' : Nat → Prop) (ow' : Nat → Option Nat) (w' : World) : Prop where
  upd : Upd (fun k => ow k ≠ none) w w'
  x1 : ∀ k, k < w.heap.size → X k → ow k = none → X' k
  x2 : ∀ k, k < w.heap.size → X' k → X k
  o2 : ∀ k, k < w.heap.size → ow k = none → ow' k = none
theorem Gw.refl (X : Nat → Prop) (ow : Nat → Option Nat) (w : World) : Gw X ow w X ow w := ⟨Upd.refl _ _, fun _ _ h _ => h, fun _ _ h => h, fun _ _ h => h⟩
theorem Gw.trans {X X1 X2 : Nat → Prop} {ow ow1 ow2 : Nat → Option Nat} {w w1 w2 : World} (h : Gw X ow w X1 ow1 w1) (k : Gw X1 ow1 w1 X2 ow2 w2) : Gw X ow w X2 ow2 w2 :=
  ⟨h.upd.trans k.upd (fun j hj hn e => hn (h.o2 j hj e)), fun j hj hx ho => k.x1 j (Nat.lt_of_lt_of_le hj h.upd.size) (h.x1 j hj hx ho) (h.o2 j hj ho), fun j hj hx => h.x2 j hj (k.x2 j (Nat.lt_of_lt_of_le hj h.upd.size) hx), fun j hj ho => k.o2 j (Nat.lt_of_lt_of_le hj h.upd.size) (h.o2 j hj ho)⟩
/-- A failure: its number, wrapped so many times. -/
def ErrV (er : Int) : Nat → Value → Prop
  | 0, v => v = wrongV er
  | k + 1, v => ∃ z u, v = .iface 178 (.agg #[.string z, u]) ∧ ErrV er k u
/-- A machine that runs no more. -/
def ME (B : Nat) (w : World) (X : Nat → Prop) (ow : Nat → Option Nat) (M b : Nat) (st er de : Int) (va : List UInt8) (o : List (List UInt8)) : Prop :=
  ∃ out, w.heap[M]? = some (Obj.cells (mcC b 0 .nilIface (.pointer none) .nilIface (.slice none 0 0) (.pointer none) out st er de ⟨va.toArray⟩) 119 (0, 0)) ∧ OutX w B ow out o ∧ (∀ k t, ow k = some t → X k) ∧ XTy w B X ∧ ow M = some 0 ∧ Tab B w
/-- What a kind's method comes to. -/
def StepPost (B K : Nat) (X : Nat → Prop) (ow : Nat → Option Nat) (w : World) (M b : Nat) (C : Cd) : SR → Ending → World → Prop
  | .ok s', e, w' => e = .returned .nilIface ∧ ∃ X' ow', MR B K w' X' ow' M b C s' ∧ Gw X ow w X' ow' w'
  | .err er d o, e, w' => ∃ v k, e = .returned v ∧ k ≤ 1 ∧ ErrV er k v ∧ ∃ X' ow' s', MR B K w' X' ow' M b C s' ∧ Gw X ow w X' ow' w' ∧ s'.st.length = d + 1 ∧ s'.out = o
  | .done t o, e, w' => e = .returned .nilIface ∧ ∃ X' ow', ME B w' X' ow' M b 1 0 0 t o ∧ Gw X ow w X' ow' w'
  | .bad, _, _ => True

/-- Registers are turned. -/
theorem RS.regs {B K : Nat} {w : World} {X : Nat → Prop} {ow mo mf : Nat → Option Nat} {M b : Nat} {C : Cd} {s : MS} {val app args out : Value} {top : Option Addr} {gf : Nat} (h : RS B K w X ow mo mf M b C s val app args out top gf)
    (s' : MS) (val' app' args' : Value) (top' : Option Addr) (gf' : Nat) (ho : s'.out = s.out) (hfs : s'.frs = s.frs) (hob : s'.obs = s.obs) (hv : OV w mo s'.val val') (hf : mf s'.fr = some gf') (ha : AppX w ow mo s'.app app' args') (hs : StX w mo mf top' s'.st) :
    RS B K w X ow mo mf M b C s' val' app' args' out top' gf' :=
  ⟨h.code, hv, hf, ha, hs, by rw [ho]; exact h.out, by rw [hfs]; exact h.frs, by rw [hob]; exact h.obs, h.mlt, by rw [hob]; exact h.mdm, h.mcl, h.inj, h.mcd, by rw [hfs]; exact h.fdm, h.owx, h.xty, h.owM, h.tab, h.hB⟩
theorem RS.gw {B K : Nat} {w w' : World} {X : Nat → Prop} {ow mo mf : Nat → Option Nat} {M b : Nat} {C : Cd} {s : MS} {val app args out : Value} {top : Option Addr} {gf : Nat} (h : RS B K w X ow mo mf M b C s val app args out top gf) (hu : Upd (fun k => k = M) w w') : Gw X ow w X ow w' :=
  ⟨hu.mono fun j e => by subst e; rw [h.owM]; simp, fun _ _ h _ => h, fun _ _ h => h, fun _ _ h => h⟩

/-- The cells of a machine, one by one. -/
theorem mc_cell {w : World} {M b : Nat} {pc : Int} {val fr app args top out : Value} {st er de : Int} {va : ByteArray} (h : w.heap[M]? = some (Obj.cells (mcC b pc val fr app args top out st er de va) 119 (0, 0))) :
    w.cell? ⟨M, 0, none⟩ = some (ptrV b) ∧ w.cell? ⟨M, 1, none⟩ = some (.int .i64 pc) ∧ w.cell? ⟨M, 2, none⟩ = some val ∧ w.cell? ⟨M, 3, none⟩ = some fr ∧ w.cell? ⟨M, 4, none⟩ = some app ∧ w.cell? ⟨M, 5, none⟩ = some args ∧ w.cell? ⟨M, 6, none⟩ = some top ∧ w.cell? ⟨M, 7, none⟩ = some out ∧ w.cell? ⟨M, 8, none⟩ = some (.int .i64 st) ∧ w.cell? ⟨M, 9, none⟩ = some (.int .i64 er) ∧ w.cell? ⟨M, 10, none⟩ = some (.int .i64 de) ∧ w.cell? ⟨M, 11, none⟩ = some (.string va) := by
  refine ⟨?_, ?_, ?_, ?_, ?_, ?_, ?_, ?_, ?_, ?_, ?_, ?_⟩ <;> rw [cell_of_block h] <;> rfl
theorem keepM {w w' : World} {M : Nat} {c : Array Value} {T : TypeId} (hM : w.heap[M]? = some (Obj.cells c 119 (0, 0))) (hu : Upd (fun k => k = M) w w') (hT : T ≠ 119) : Keep T w w' :=
  Keep.of_upd hu fun k c' hk hc => by subst hk; rw [hM] at hc; cases hc; exact hT rfl
theorem StX.keepM {w w' : World} {mo mf : Nat → Option Nat} {M : Nat} {c : Array Value} {l : List En} {p : Option Addr} (h : StX w mo mf p l) (hM : w.heap[M]? = some (Obj.cells c 119 (0, 0))) (hu : Upd (fun k => k = M) w w') : StX w' mo mf p l :=
  h.keep (Go.Proofs.YtlobegpjenabaaaGreatDoor.keepM hM hu (by decide)) (Go.Proofs.YtlobegpjenabaaaGreatDoor.keepM hM hu (by decide)) (Go.Proofs.YtlobegpjenabaaaGreatDoor.keepM hM hu (by decide)) (Le.refl _) (Le.refl _)
theorem ItX.keepM {w w' : World} {mo : Nat → Option Nat} {M : Nat} {c : Array Value} {l : List V} {p : Option Addr} (h : ItX w mo p l) (hM : w.heap[M]? = some (Obj.cells c 119 (0, 0))) (hu : Upd (fun k => k = M) w w') : ItX w' mo p l :=
  h.keep (Go.Proofs.YtlobegpjenabaaaGreatDoor.keepM hM hu (by decide)) (Go.Proofs.YtlobegpjenabaaaGreatDoor.keepM hM hu (by decide)) (Le.refl _)
theorem VX.keepM {w w' : World} {mo : Nat → Option Nat} {M : Nat} {c : Array Value} {v : V} {x : Value} (h : VX w mo v x) (hM : w.heap[M]? = some (Obj.cells c 119 (0, 0))) (hu : Upd (fun k => k = M) w w') : VX w' mo v x := VX.keep (Go.Proofs.YtlobegpjenabaaaGreatDoor.keepM hM hu (by decide)) (Le.refl _) _ _ h
/-- From a running machine to another, where its own cells have turned and new blocks are there. -/
theorem RS.go {B K : Nat} {w : World} {X : Nat → Prop} {ow mo mf : Nat → Option Nat} {M b : Nat} {C : Cd} {s : MS} {val app args out : Value} {top : Option Addr} {gf : Nat} (h : RS B K w X ow mo mf M b C s val app args out top gf) (hM : w.heap[M]? = some (Obj.cells (mcC b s.pc val (ptrV gf) app args (.pointer top) out 0 0 0 ⟨#[]⟩) 119 (0, 0))) {w' : World} (hu : Upd (fun k => k = M) w w') (s' : MS) (val' app' args' : Value) (top' : Option Addr) (gf' : Nat) (hM' : w'.heap[M]? = some (Obj.cells (mcC b s'.pc val' (ptrV gf') app' args' (.pointer top') out 0 0 0 ⟨#[]⟩) 119 (0, 0)))
    (ho : s'.out = s.out) (hfs : s'.frs = s.frs) (hob : s'.obs = s.obs) (f : RS B K w' X ow mo mf M b C s val app args out top gf → OV w' mo s'.val val' ∧ mf s'.fr = some gf' ∧ AppX w' ow mo s'.app app' args' ∧ StX w' mo mf top' s'.st) :
    ∃ X' ow', MR B K w' X' ow' M b C s' ∧ Gw X ow w X' ow' w' := by
  have h' := h.ext hM hu hM'
  obtain ⟨f1, f2, f3, f4⟩ := f h'
  exact ⟨X, ow, ⟨mo, mf, val', app', args', out, top', gf', hM', h'.regs s' val' app' args' top' gf' ho hfs hob f1 f2 f3 f4⟩, h.gw hu⟩
theorem new_block (w : World) (p : Addr) (v : Value) (o : Obj) : ((w.setCell p v).alloc o).heap[w.heap.size]? = some o := by
  rw [heap_alloc_at, if_pos (by simp)]
theorem setM (w : World) (M o : Nat) (v : Value) : Upd (fun k => k = M) w (w.setCell ⟨M, o, none⟩ v) := (Upd.refl _ w).setCell _ _ (fun _ => rfl)
theorem MR.self {B K : Nat} {w : World} {X : Nat → Prop} {ow mo mf : Nat → Option Nat} {M b : Nat} {C : Cd} {s : MS} {val app args out : Value} {top : Option Addr} {gf : Nat} (h : RS B K w X ow mo mf M b C s val app args out top gf) (hM : w.heap[M]? = some (Obj.cells (mcC b s.pc val (ptrV gf) app args (.pointer top) out 0 0 0 ⟨#[]⟩) 119 (0, 0))) : MR B K w X ow M b C s := ⟨mo, mf, val, app, args, out, top, gf, hM, h⟩
/-- A failure, where nothing has turned. -/
theorem err_step {B K : Nat} {w : World} {X : Nat → Prop} {ow mo mf : Nat → Option Nat} {M b : Nat} {C : Cd} {s : MS} {val app args out : Value} {top : Option Addr} {gf : Nat} (h : RS B K w X ow mo mf M b C s val app args out top gf) (hM : w.heap[M]? = some (Obj.cells (mcC b s.pc val (ptrV gf) app args (.pointer top) out 0 0 0 ⟨#[]⟩) 119 (0, 0))) (er : Int) (v : Value) (k : Nat) (hk : k ≤ 1) (hv : ErrV er k v) (w' : World) (hw : w' = w) (hn : errS s er ≠ .bad) : StepPost B K X ow w M b C (errS s er) (.returned v) w' := by
  subst hw
  unfold errS at *
  cases hst : s.st with
  | nil => rw [hst] at hn; exact absurd rfl hn
  | cons e r => exact ⟨v, k, rfl, hk, hv, X, ow, s, MR.self h hM, Gw.refl _ _ _, by rw [hst]; rfl, rfl⟩

theorem form_step {B K : Nat} {w : World} {X : Nat → Prop} {ow mo mf : Nat → Option Nat} {M b : Nat} {C : Cd} {s : MS} {val app args out : Value} {top : Option Addr} {gf : Nat} (h : RS B K w X ow mo mf M b C s val app args out top gf) (hM : w.heap[M]? = some (Obj.cells (mcC b s.pc val (ptrV gf) app args (.pointer top) out 0 0 0 ⟨#[]⟩) 119 (0, 0))) (n : Int) : Calls Tryz.prog 116 #[.pointer (some ⟨M, 0, none⟩), .int .i64 n] w (StepPost B K X ow w M b C (opS C s 0 n)) := by
  obtain ⟨k0, k1, k2, k3, k4, k5, k6, k7, k8, k9, k10, k11⟩ := mc_cell hM
  refine (form_raw w M gf n _ (lt_of_some hM) k3 k6 (frozen_of_block hM 6)).mono ?_
  rintro e w' ⟨rfl, rfl⟩
  refine ⟨rfl, h.go hM ((setM w M 6 _).alloc _) _ val app args (some ⟨w.heap.size, 0, none⟩) gf ((heap_alloc_lt (heap_setCell_same hM)).trans rfl) rfl rfl rfl fun h' => ⟨h'.val, h'.fr, h'.app, ?_⟩⟩
  exact ⟨w.heap.size, none, gf, none, rfl, new_block _ _ _ _, h'.fr, ⟨[], rfl, trivial⟩, Nat.zero_le _, Nat.zero_le _, rfl⟩
theorem drop_step {B K : Nat} {w : World} {X : Nat → Prop} {ow mo mf : Nat → Option Nat} {M b : Nat} {C : Cd} {s : MS} {val app args out : Value} {top : Option Addr} {gf : Nat} (h : RS B K w X ow mo mf M b C s val app args out top gf) (hM : w.heap[M]? = some (Obj.cells (mcC b s.pc val (ptrV gf) app args (.pointer top) out 0 0 0 ⟨#[]⟩) 119 (0, 0))) (n : Int) (hn : opS C s 7 n ≠ .bad) : Calls Tryz.prog 123 #[.pointer (some ⟨M, 0, none⟩), .int .i64 n] w (StepPost B K X ow w M b C (opS C s 7 n)) := by
  obtain ⟨k0, k1, k2, k3, k4, k5, k6, k7, k8, k9, k10, k11⟩ := mc_cell hM
  have hst := h.st
  simp only [opS] at hn ⊢
  cases hs : s.st with
  | nil => rw [hs] at hn; exact absurd rfl hn
  | cons en r =>
    rw [hs] at hst
    obtain ⟨g, q, gf0, got, rfl, hg, _, _, _, _, hr⟩ := hst
    have c0 := cell_of_block hg 0
    refine (drop_raw w M g n q k6 (frozen_of_block hM 6) c0).mono ?_
    rintro e w' ⟨rfl, rfl⟩
    refine ⟨rfl, h.go hM (setM w M 6 _) _ val app args q gf ((heap_setCell_same hM).trans rfl) rfl rfl rfl fun h' => ⟨h'.val, h'.fr, h'.app, ?_⟩⟩
    exact hr.keepM hM (setM w M 6 _)
theorem pend_step {B K : Nat} {w : World} {X : Nat → Prop} {ow mo mf : Nat → Option Nat} {M b : Nat} {C : Cd} {s : MS} {val app args out : Value} {top : Option Addr} {gf : Nat} (h : RS B K w X ow mo mf M b C s val app args out top gf) (hM : w.heap[M]? = some (Obj.cells (mcC b s.pc val (ptrV gf) app args (.pointer top) out 0 0 0 ⟨#[]⟩) 119 (0, 0))) (n : Int) (hn : opS C s 4 n ≠ .bad) : Calls Tryz.prog 120 #[.pointer (some ⟨M, 0, none⟩), .int .i64 n] w (StepPost B K X ow w M b C (opS C s 4 n)) := by
  obtain ⟨k0, k1, k2, k3, k4, k5, k6, k7, k8, k9, k10, k11⟩ := mc_cell hM
  have hst := h.st
  simp only [opS] at hn ⊢
  cases hs : s.st with
  | nil => rw [hs] at hn; simp at hn
  | cons en r =>
    have hst0 := hst
    rw [hs] at hst
    obtain ⟨g, q, gf0, got, rfl, hg, _, _, _, hrl, hr⟩ := hst
    have c1 := cell_of_block hg 1
    rw [hs] at hn
    by_cases hd : (en :: r).length = 201
    · rw [if_pos hd] at hn ⊢
      have hr200 : r.length = 200 := by simpa using hd
      refine (pend_deep w M g n k6 (by rw [c1]; simp [enC, hr200])).mono ?_
      rintro e w' ⟨rfl, hw⟩
      exact err_step h hM 9 _ 0 (by omega) rfl w' hw hn
    · rw [if_neg hd] at hn ⊢
      have hb2 : ¬ ((en :: r).length = 0 ∨ 201 < (en :: r).length) := fun hb => by rw [if_pos hb] at hn; exact hn rfl
      rw [if_neg hb2]
      have hr200' : r.length < 200 := by simp at hd hb2; omega
      refine (pend_raw w M g gf n r.length hr200' (lt_of_some hM) k6 (frozen_of_block hM 6) k3 (by rw [c1]; rfl)).mono ?_
      rintro e w' ⟨rfl, rfl⟩
      refine ⟨rfl, h.go hM (((setM w M 6 _).alloc _).drew) _ val app args (some ⟨w.heap.size, 0, none⟩) gf ((heap_alloc_lt (heap_setCell_same hM)).trans rfl) rfl rfl rfl fun h' => ⟨h'.val, h'.fr, h'.app, ?_⟩⟩
      refine ⟨w.heap.size, some ⟨g, 0, none⟩, gf, none, rfl, ?_, h'.fr, ⟨[], rfl, trivial⟩, Nat.zero_le _, by simp; omega, by have := h'.st; rw [hs] at this; exact this⟩
      exact new_block _ _ _ _
theorem next_step {B K : Nat} {w : World} {X : Nat → Prop} {ow mo mf : Nat → Option Nat} {M b : Nat} {C : Cd} {s : MS} {val app args out : Value} {top : Option Addr} {gf : Nat} (h : RS B K w X ow mo mf M b C s val app args out top gf) (hM : w.heap[M]? = some (Obj.cells (mcC b s.pc val (ptrV gf) app args (.pointer top) out 0 0 0 ⟨#[]⟩) 119 (0, 0))) (n : Int) (hn : opS C s 6 n ≠ .bad) : Calls Tryz.prog 122 #[.pointer (some ⟨M, 0, none⟩), .int .i64 n] w (StepPost B K X ow w M b C (opS C s 6 n)) := by
  obtain ⟨k0, k1, k2, k3, k4, k5, k6, k7, k8, k9, k10, k11⟩ := mc_cell hM
  have hst := h.st
  simp only [opS] at hn ⊢
  cases hs : s.st with
  | nil => rw [hs] at hn; exact absurd rfl hn
  | cons en r =>
    rw [hs] at hst
    obtain ⟨g, q, gf0, got, rfl, hg, hf0, ⟨xs, hi, hxs⟩, hgl, hrl, hr⟩ := hst
    refine (next_go w M g n q (some ⟨gf0, 0, none⟩) got r.length en.nx xs (lt_of_some hM) k6 (frozen_of_block hM 6) hg hi).mono ?_
    rintro e w' ⟨w2, g2, q2, rfl, rfl, hb, hge, hg2, hi2⟩
    have hu2 : Upd (fun k => k = M) w w2 := Upd.of_below _ hb
    have hM2 : w2.heap[M]? = some (Obj.cells (mcC b s.pc val (ptrV gf) app args (.pointer (some ⟨g, 0, none⟩)) out 0 0 0 ⟨#[]⟩) 119 (0, 0)) := by rw [hb.block M (lt_of_some hM)]; exact hM
    have hu := hu2.setCell ⟨M, 6, none⟩ (.pointer (some ⟨g2, 0, none⟩)) (fun _ => rfl)
    refine ⟨rfl, h.go hM hu _ val app args (some ⟨g2, 0, none⟩) gf ((heap_setCell_same hM2).trans rfl) rfl rfl rfl fun h' => ⟨h'.val, h'.fr, h'.app, ?_⟩⟩
    have kk : ∀ T, T ≠ 119 → Keep T w2 _ := fun T hT => Go.Proofs.YtlobegpjenabaaaGreatDoor.keepM hM2 (setM w2 M 6 (.pointer (some ⟨g2, 0, none⟩))) hT
    exact ⟨g2, q, gf0, q2, rfl, kk _ (by decide) _ _ hg2, hf0, ⟨xs, ItR.keep (kk _ (by decide)) _ _ hi2, VXs.keep (Go.Proofs.YtlobegpjenabaaaGreatDoor.keepM hM hu (by decide)) (Le.refl _) _ _ hxs⟩, hgl, hrl, hr.keepM hM hu⟩
theorem join_step {B K : Nat} {w : World} {X : Nat → Prop} {ow mo mf : Nat → Option Nat} {M b : Nat} {C : Cd} {s : MS} {val app args out : Value} {top : Option Addr} {gf : Nat} (h : RS B K w X ow mo mf M b C s val app args out top gf) (hM : w.heap[M]? = some (Obj.cells (mcC b s.pc val (ptrV gf) app args (.pointer top) out 0 0 0 ⟨#[]⟩) 119 (0, 0))) (n : Int) (hn : opS C s 5 n ≠ .bad) : Calls Tryz.prog 121 #[.pointer (some ⟨M, 0, none⟩), .int .i64 n] w (StepPost B K X ow w M b C (opS C s 5 n)) := by
  obtain ⟨k0, k1, k2, k3, k4, k5, k6, k7, k8, k9, k10, k11⟩ := mc_cell hM
  have hst := h.st
  have hv := h.val
  simp only [opS] at hn ⊢
  cases hs : s.st with
  | nil => rw [hs] at hn; exact absurd rfl hn
  | cons en r =>
    rw [hs] at hst hn
    cases hsv : s.val with
    | none => rw [hsv] at hn; exact absurd rfl hn
    | some v =>
      rw [hsv] at hv hn
      simp only [] at hn ⊢
      by_cases hgl' : en.got.length < 1000000
      · rw [if_pos hgl']
        have hv : VX w mo v val := hv
        obtain ⟨t, x, rfl⟩ := hv.form
        obtain ⟨g, q, gf0, got, rfl, hg, hf0, ⟨xs, hi, hxs⟩, hgl, hrl, hr⟩ := hst
        have hxl : xs.length ≤ 1000000 := by rw [← hxs.length]; exact hgl
        refine (join_go w M g n q (some ⟨gf0, 0, none⟩) got r.length en.nx t x xs hxl (lt_of_some hM) k6 (frozen_of_block hM 6) k2 hg hi).mono ?_
        rintro e w' ⟨w2, g2, q2, rfl, rfl, hb, hge, hg2, hi2⟩
        have hu2 : Upd (fun k => k = M) w w2 := Upd.of_below _ hb
        have hM2 : w2.heap[M]? = some (Obj.cells (mcC b s.pc (.iface t x) (ptrV gf) app args (.pointer (some ⟨g, 0, none⟩)) out 0 0 0 ⟨#[]⟩) 119 (0, 0)) := by rw [hb.block M (lt_of_some hM)]; exact hM
        have hu := hu2.setCell ⟨M, 6, none⟩ (.pointer (some ⟨g2, 0, none⟩)) (fun _ => rfl)
        refine ⟨rfl, h.go hM hu _ (.iface t x) app args (some ⟨g2, 0, none⟩) gf ((heap_setCell_same hM2).trans rfl) rfl rfl rfl fun h' => ⟨by have := h'.val; rw [hsv] at this; exact this, h'.fr, h'.app, ?_⟩⟩
        have kk : ∀ T, T ≠ 119 → Keep T w2 _ := fun T hT => Go.Proofs.YtlobegpjenabaaaGreatDoor.keepM hM2 (setM w2 M 6 (.pointer (some ⟨g2, 0, none⟩))) hT
        refine ⟨g2, q, gf0, q2, rfl, kk _ (by decide) _ _ hg2, hf0, ⟨_, ItR.keep (kk _ (by decide)) _ _ hi2, VXs.keep (Go.Proofs.YtlobegpjenabaaaGreatDoor.keepM hM hu (by decide)) (Le.refl _) (v :: en.got) (.iface t x :: xs) ⟨hv, hxs⟩⟩, by simp; omega, hrl, hr.keepM hM hu⟩
      · rw [if_neg hgl'] at hn; exact absurd rfl hn
theorem back_step {B K : Nat} {w : World} {X : Nat → Prop} {ow mo mf : Nat → Option Nat} {M b : Nat} {C : Cd} {s : MS} {val app args out : Value} {top : Option Addr} {gf : Nat} (h : RS B K w X ow mo mf M b C s val app args out top gf) (hM : w.heap[M]? = some (Obj.cells (mcC b s.pc val (ptrV gf) app args (.pointer top) out 0 0 0 ⟨#[]⟩) 119 (0, 0))) (n : Int) (hn : opS C s 13 n ≠ .bad) : Calls Tryz.prog 129 #[.pointer (some ⟨M, 0, none⟩), .int .i64 n] w (StepPost B K X ow w M b C (opS C s 13 n)) := by
  obtain ⟨k0, k1, k2, k3, k4, k5, k6, k7, k8, k9, k10, k11⟩ := mc_cell hM
  have hst := h.st
  simp only [opS] at hn ⊢
  cases hs : s.st with
  | nil => rw [hs] at hn; exact absurd rfl hn
  | cons en r =>
    rw [hs] at hst
    obtain ⟨g, q, gf0, got, rfl, hg, hf0, _, _, _, hr⟩ := hst
    have c2 := cell_of_block hg 2
    have c3 := cell_of_block hg 3
    refine (back_raw w M g gf0 n en.nx s.pc _ k6 k1 k3 (frozen_of_block hM 1) (frozen_of_block hM 3) c3 c2).mono ?_
    rintro e w' ⟨rfl, rfl⟩
    have hu : Upd (fun k => k = M) w ((w.setCell ⟨M, 1, none⟩ (.int .i64 en.nx)).setCell ⟨M, 3, none⟩ (.pointer (some ⟨gf0, 0, none⟩))).drew := ((setM w M 1 _).setCell _ _ (fun _ => rfl)).drew
    exact ⟨rfl, h.go hM hu _ val app args (some ⟨g, 0, none⟩) gf0 ((heap_setCell_same (heap_setCell_same hM)).trans rfl) rfl rfl rfl fun h' => ⟨h'.val, hf0, h'.app, by have := h'.st; rw [hs] at this; exact this⟩⟩
theorem const_step {B K : Nat} {w : World} {X : Nat → Prop} {ow mo mf : Nat → Option Nat} {M b : Nat} {C : Cd} {s : MS} {val app args out : Value} {top : Option Addr} {gf : Nat} (h : RS B K w X ow mo mf M b C s val app args out top gf) (hM : w.heap[M]? = some (Obj.cells (mcC b s.pc val (ptrV gf) app args (.pointer top) out 0 0 0 ⟨#[]⟩) 119 (0, 0))) (n : Int) (hn0 : 0 ≤ n) (hn : opS C s 1 n ≠ .bad) : Calls Tryz.prog 117 #[.pointer (some ⟨M, 0, none⟩), .int .i64 n] w (StepPost B K X ow w M b C (opS C s 1 n)) := by
  obtain ⟨k0, k1, k2, k3, k4, k5, k6, k7, k8, k9, k10, k11⟩ := mc_cell hM
  simp only [opS] at hn ⊢
  cases hc : C.cs[n.toNat]? with
  | none => rw [hc] at hn; exact absurd rfl hn
  | some v =>
    obtain ⟨c, u0, u1, u2, u3, x1, x3, hcd⟩ := h.code
    have hlt : n.toNat < C.cs.length := (List.getElem?_eq_some_iff.1 hc).1
    obtain ⟨y, hy, hvy⟩ := VXs.get n.toNat v hcd.v1 hc
    have hvy := VX.keep (Keep.refl _) h.mcd _ _ hvy
    obtain ⟨t, x, rfl⟩ := hvy.form
    obtain ⟨g, cap, rfl, _, _, _, _, hcell⟩ := ownsRow_cell hcd.r1.1 (by omega)
    have b1 : w.cell? ⟨b, 1, none⟩ = some (.slice (some ⟨g, 0, none⟩) C.cs.length cap) := by rw [cell_of_block hcd.hS]; exact hcd.c1
    have := constant_raw w M b g C.cs.length cap n.toNat t x _ k0 k2 (frozen_of_block hM 2) b1 hlt hcd.lc (hcell _ _ hy)
    rw [Int.toNat_of_nonneg hn0] at this
    refine this.mono ?_
    rintro e w' ⟨rfl, rfl⟩
    exact ⟨rfl, h.go hM (setM w M 2 _) _ (.iface t x) app args top gf ((heap_setCell_same hM).trans rfl) rfl rfl rfl fun h' => ⟨hvy.keepM hM (setM w M 2 _), h'.fr, h'.app, h'.st⟩⟩
end Go.Proofs.YtlobegpjenabaaaGreatDoor

/- The first procedures are made. -/
namespace Go.Proofs.YtlobegpjenabaaaGreatDoor
open Go.RowKit
set_option linter.unusedSimpArgs false
set_option linter.unusedVariables false

/-- New blocks, one behind another. -/
def allocs : World → List Obj → World
  | w, [] => w
  | w, o :: r => allocs (w.alloc o) r
theorem allocs_below : ∀ (l : List Obj) (w : World), Below w.heap.size w (allocs w l)
  | [], w => Below.refl _ _
  | o :: r, w => by
    have h := allocs_below r (w.alloc o)
    exact ((Below.refl w.heap.size w).alloc (Nat.le_refl _) o).trans (h.mono (by simp))
theorem allocs_size : ∀ (l : List Obj) (w : World), (allocs w l).heap.size = w.heap.size + l.length
  | [], w => rfl
  | o :: r, w => by rw [allocs, allocs_size r]; simp; omega
theorem allocs_get : ∀ (l : List Obj) (w : World) (i : Nat) (o : Obj), l[i]? = some o → (allocs w l).heap[w.heap.size + i]? = some o
  | [], w, i, o, h => by simp at h
  | a :: r, w, 0, o, h => by
    simp at h; subst h
    have hb := allocs_below r (w.alloc a)
    rw [allocs, Nat.add_zero, hb.block w.heap.size (by simp)]
    exact Array.getElem?_push_size
  | a :: r, w, i + 1, o, h => by
    have := allocs_get r (w.alloc a) i o (by simpa using h)
    rw [allocs, show w.heap.size + (i + 1) = (w.alloc a).heap.size + i by simp; omega]; exact this
/-- The blocks of the first procedures, from block S on. -/
def fsL (S M : Nat) : List Obj := [
  .cells #[ptrV M] 73, .cells #[.func (.func 160) #[ptrV M] #[]] 285, .cells #[.string ⟨#[43]⟩, .int .i64 2, .func (.func 211) #[] #[ptrV (S + 0), ptrV (S + 1)]] 220,
  .cells #[ptrV M] 73, .cells #[.func (.func 161) #[ptrV M] #[]] 285, .cells #[.string ⟨#[45]⟩, .int .i64 2, .func (.func 211) #[] #[ptrV (S + 3), ptrV (S + 4)]] 220,
  .cells #[ptrV M] 73, .cells #[.func (.func 162) #[ptrV M] #[]] 285, .cells #[.string ⟨#[42]⟩, .int .i64 2, .func (.func 211) #[] #[ptrV (S + 6), ptrV (S + 7)]] 220,
  .cells #[ptrV M] 73, .cells #[.func (.func 163) #[ptrV M] #[]] 285, .cells #[.string ⟨#[60]⟩, .int .i64 2, .func (.func 211) #[] #[ptrV (S + 9), ptrV (S + 10)]] 220,
  .cells #[ptrV M] 73, .cells #[.func (.func 164) #[ptrV M] #[]] 285, .cells #[.string ⟨#[61]⟩, .int .i64 2, .func (.func 211) #[] #[ptrV (S + 12), ptrV (S + 13)]] 220,
  .cells #[ptrV M] 73, .cells #[.func (.func 166) #[ptrV M] #[]] 287, .cells #[.string ⟨#[99, 111, 110, 115]⟩, .int .i64 2, .func (.func 213) #[] #[ptrV (S + 15), ptrV (S + 16)]] 220,
  .cells #[ptrV M] 73, .cells #[.func (.func 168) #[ptrV M] #[]] 289, .cells #[.string ⟨#[99, 97, 114]⟩, .int .i64 1, .func (.func 214) #[] #[ptrV (S + 18), ptrV (S + 19)]] 220,
  .cells #[ptrV M] 73, .cells #[.func (.func 169) #[ptrV M] #[]] 289, .cells #[.string ⟨#[99, 100, 114]⟩, .int .i64 1, .func (.func 214) #[] #[ptrV (S + 21), ptrV (S + 22)]] 220,
  .cells #[ptrV M] 73, .cells #[.func (.func 171) #[ptrV M] #[]] 291, .cells #[.string ⟨#[110, 117, 108, 108, 63]⟩, .int .i64 1, .func (.func 215) #[] #[ptrV (S + 24), ptrV (S + 25)]] 220,
  .cells #[ptrV M] 73, .cells #[.func (.func 172) #[ptrV M] #[]] 291, .cells #[.string ⟨#[112, 97, 105, 114, 63]⟩, .int .i64 1, .func (.func 215) #[] #[ptrV (S + 27), ptrV (S + 28)]] 220,
  .cells #[ptrV M] 73, .cells #[.func (.func 173) #[ptrV M] #[]] 291, .cells #[.string ⟨#[110, 111, 116]⟩, .int .i64 1, .func (.func 215) #[] #[ptrV (S + 30), ptrV (S + 31)]] 220,
  .cells #[ptrV M] 73, .cells #[.func (.func 174) #[ptrV M] #[]] 287, .cells #[.string ⟨#[101, 113, 63]⟩, .int .i64 2, .func (.func 213) #[] #[ptrV (S + 33), ptrV (S + 34)]] 220,
  .cells #[.string ⟨#[100, 105, 115, 112, 108, 97, 121]⟩, .int .i64 1, .func (.func 175) #[ptrV M] #[]] 220,
  .cells #[.string ⟨#[99, 97, 108, 108, 47, 99, 99]⟩, .int .i64 1, .func (.func 176) #[ptrV M] #[]] 220,
  .cells #[ptrV (S + 2), ptrV (S + 5), ptrV (S + 8), ptrV (S + 11), ptrV (S + 14), ptrV (S + 17), ptrV (S + 20), ptrV (S + 23), ptrV (S + 26), ptrV (S + 29), ptrV (S + 32), ptrV (S + 35), ptrV (S + 36), ptrV (S + 37)] 216]
def FirstsPost (w : World) (M : Nat) (e : Ending) (w' : World) : Prop := e = .returned (.slice (some ⟨w.heap.size + 38, 0, none⟩) 14 14) ∧ w' = allocs w (fsL w.heap.size M)
theorem boxW_size (w : World) (M f : Nat) (T : TypeId) : (BoxW w M f T).heap.size = w.heap.size + 2 := by unfold BoxW; simp
set_option maxRecDepth 100000 in
set_option maxHeartbeats 4000000 in
theorem firsts_go (w : World) (M : Nat) : Calls Tryz.prog 100 #[.pointer (some ⟨M, 0, none⟩)] w (FirstsPost w M) := by
  have hmf : ∀ (fn : Fn) (first cap : Array Value) (w : World), (Instr.makeFunc fn first cap).run Tryz.prog w = .ok (.func fn first cap) w := fun _ _ _ _ => rfl
  go_enter Tryz.func100, Tryz.ntmps100
  go_wp2_with fail
  refine (ofInts_raw _ M 160).mono ?_
  rintro e w0 ⟨rfl, hw0⟩
  have H0 := hide hw0
  clear hw0
  go_wp2_with fail
  refine (ofInts_raw _ M 161).mono ?_
  rintro e w1 ⟨rfl, hw1⟩
  have H1 := hide hw1
  clear hw1
  go_wp2_with fail
  refine (ofInts_raw _ M 162).mono ?_
  rintro e w2 ⟨rfl, hw2⟩
  have H2 := hide hw2
  clear hw2
  go_wp2_with fail
  refine (ofInts_raw _ M 163).mono ?_
  rintro e w3 ⟨rfl, hw3⟩
  have H3 := hide hw3
  clear hw3
  go_wp2_with fail
  refine (ofInts_raw _ M 164).mono ?_
  rintro e w4 ⟨rfl, hw4⟩
  have H4 := hide hw4
  clear hw4
  go_wp2_with fail
  refine (ofTwo_raw _ M 166).mono ?_
  rintro e w5 ⟨rfl, hw5⟩
  have H5 := hide hw5
  clear hw5
  go_wp2_with fail
  refine (ofPair_raw _ M 168).mono ?_
  rintro e w6 ⟨rfl, hw6⟩
  have H6 := hide hw6
  clear hw6
  go_wp2_with fail
  refine (ofPair_raw _ M 169).mono ?_
  rintro e w7 ⟨rfl, hw7⟩
  have H7 := hide hw7
  clear hw7
  go_wp2_with fail
  refine (ofOne_raw _ M 171).mono ?_
  rintro e w8 ⟨rfl, hw8⟩
  have H8 := hide hw8
  clear hw8
  go_wp2_with fail
  refine (ofOne_raw _ M 172).mono ?_
  rintro e w9 ⟨rfl, hw9⟩
  have H9 := hide hw9
  clear hw9
  go_wp2_with fail
  refine (ofOne_raw _ M 173).mono ?_
  rintro e w10 ⟨rfl, hw10⟩
  have H10 := hide hw10
  clear hw10
  go_wp2_with fail
  refine (ofTwo_raw _ M 174).mono ?_
  rintro e w11 ⟨rfl, hw11⟩
  have H11 := hide hw11
  clear hw11
  go_wp2
  have h0 := H0.out
  have s0 : w0.heap.size = w.heap.size + 2 := by rw [h0, boxW_size]
  have h1 := H1.out
  have s1 : w1.heap.size = w.heap.size + 5 := by rw [h1, boxW_size]; simp [s0]
  have h2 := H2.out
  simp only [s0] at h2
  have s2 : w2.heap.size = w.heap.size + 8 := by rw [h2, boxW_size]; simp [s1]
  have h3 := H3.out
  simp only [s1] at h3
  have s3 : w3.heap.size = w.heap.size + 11 := by rw [h3, boxW_size]; simp [s2]
  have h4 := H4.out
  simp only [s2] at h4
  have s4 : w4.heap.size = w.heap.size + 14 := by rw [h4, boxW_size]; simp [s3]
  have h5 := H5.out
  simp only [s3] at h5
  have s5 : w5.heap.size = w.heap.size + 17 := by rw [h5, boxW_size]; simp [s4]
  have h6 := H6.out
  simp only [s4] at h6
  have s6 : w6.heap.size = w.heap.size + 20 := by rw [h6, boxW_size]; simp [s5]
  have h7 := H7.out
  simp only [s5] at h7
  have s7 : w7.heap.size = w.heap.size + 23 := by rw [h7, boxW_size]; simp [s6]
  have h8 := H8.out
  simp only [s6] at h8
  have s8 : w8.heap.size = w.heap.size + 26 := by rw [h8, boxW_size]; simp [s7]
  have h9 := H9.out
  simp only [s7] at h9
  have s9 : w9.heap.size = w.heap.size + 29 := by rw [h9, boxW_size]; simp [s8]
  have h10 := H10.out
  simp only [s8] at h10
  have s10 : w10.heap.size = w.heap.size + 32 := by rw [h10, boxW_size]; simp [s9]
  have h11 := H11.out
  simp only [s9] at h11
  have s11 : w11.heap.size = w.heap.size + 35 := by rw [h11, boxW_size]; simp [s10]
  simp only [s0, s1, s2, s3, s4, s5, s6, s7, s8, s9, s10, s11]
  go_ret
  refine ⟨rfl, ?_⟩
  rw [h11, h10, h9, h8, h7, h6, h5, h4, h3, h2, h1, h0]
  rfl
end Go.Proofs.YtlobegpjenabaaaGreatDoor
