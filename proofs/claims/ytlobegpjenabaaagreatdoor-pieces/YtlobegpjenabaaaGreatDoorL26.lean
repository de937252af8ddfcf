/- The kinds of instructions, as they walk, IX: call/cc. -/
import Derived.Test.YtlobegpjenabaaaGreatDoorL21
import Derived.Test.YtlobegpjenabaaaGreatDoorL25
namespace Go.Proofs.YtlobegpjenabaaaGreatDoor
open Go.RowKit
set_option linter.unusedSimpArgs false
set_option linter.unusedVariables false

/-- The world behind toBeDone. -/
def tbdW (w : World) (M : Nat) (top : Option Addr) : World := (((w.alloc (.cells #[.pointer (some ⟨M, 0, none⟩)] 73)).alloc (.cells #[.pointer top] 111)).alloc (.cells #[.string ⟨#[119, 104, 97, 116, 32, 99, 97, 108, 108, 47, 99, 99, 32, 103, 97, 118, 101]⟩, .int .i64 1, .func (.func 231) #[] #[.pointer (some ⟨w.heap.size + 1, 0, none⟩), .pointer (some ⟨w.heap.size, 0, none⟩)]] 220))
/-- The world behind call/cc. -/
def ccW (w1 : World) (M : Nat) (t : TypeId) (x : Value) (g : Nat) (pc : Int) : World :=
  ((((w1.setCell ⟨M, 4, none⟩ (.iface t x)).setCell ⟨M, 5, none⟩ (.slice (some ⟨w1.heap.size, 0, none⟩) 1 1)).setCell ⟨M, 1, none⟩ (.int .i64 pc)).alloc (.cells #[.iface 216 (.pointer (some ⟨g, 0, none⟩))] 81))
theorem tbdW_below (w : World) (M : Nat) (top : Option Addr) : Below w.heap.size w (tbdW w M top) := (((Below.refl _ w).alloc (Nat.le_refl _) _).alloc (by simp) _).alloc (by simp; omega) _
set_option maxRecDepth 100000 in
set_option maxHeartbeats 1000000 in
theorem callCC_raw (w : World) (M gv off cap : Nat) (t : TypeId) (x v4 v5 : Value) (pc : Int) (top : Option Addr) (hM : M < w.heap.size) (hpc : 0 < pc ∧ pc < 10000000) (k1 : w.cell? ⟨M, 1, none⟩ = some (.int .i64 pc)) (k4 : w.cell? ⟨M, 4, none⟩ = some v4) (k5 : w.cell? ⟨M, 5, none⟩ = some v5) (k6 : w.cell? ⟨M, 6, none⟩ = some (.pointer top)) (hf : ∀ o, w.frozen? ⟨M, o, none⟩ = false) (hgv : gv ≠ M) (lgv : gv < w.heap.size) (a0 : w.cell? ⟨gv, off, none⟩ = some (.iface t x)) :
    Calls Tryz.prog 176 #[.pointer (some ⟨M, 0, none⟩), .slice (some ⟨gv, off, none⟩) 1 cap] w (RetW .nilIface (ccW (tbdW w.drew M top) M t x (w.heap.size + 2) (pc - 1))) := by
  obtain ⟨w1, hw1⟩ : ∃ w1, w1 = tbdW w.drew M top := ⟨_, rfl⟩
  have HT : Hid (Calls Tryz.prog 216 #[.pointer (some ⟨M, 0, none⟩)] w.drew (RetW (.pointer (some ⟨w.heap.size + 2, 0, none⟩)) w1)) := by
    rw [hw1]; exact toBeDone_raw w.drew M top hM k6
  have hb : Below w.heap.size w w1 := by rw [hw1]; exact ((Below.refl _ w).drew).trans (tbdW_below w.drew M top)
  have hs1 := hb.size
  have l1 : M < w1.heap.size := Nat.lt_of_lt_of_le hM hs1
  have l2 : gv < w1.heap.size := Nat.lt_of_lt_of_le lgv hs1
  have m1 : w1.cell? ⟨M, 1, none⟩ = some (.int .i64 pc) := by rw [hb.cell (p := ⟨M, 1, none⟩) hM]; exact k1
  have m4 : w1.cell? ⟨M, 4, none⟩ = some v4 := by rw [hb.cell (p := ⟨M, 4, none⟩) hM]; exact k4
  have m5 : w1.cell? ⟨M, 5, none⟩ = some v5 := by rw [hb.cell (p := ⟨M, 5, none⟩) hM]; exact k5
  have ma : w1.cell? ⟨gv, off, none⟩ = some (.iface t x) := by rw [hb.cell (p := ⟨gv, off, none⟩) lgv]; exact a0
  have f1 : w1.frozen? ⟨M, 1, none⟩ = false := by rw [hb.frozen (p := ⟨M, 1, none⟩) hM]; exact hf 1
  have f4 : w1.frozen? ⟨M, 4, none⟩ = false := by rw [hb.frozen (p := ⟨M, 4, none⟩) hM]; exact hf 4
  have f5 : w1.frozen? ⟨M, 5, none⟩ = false := by rw [hb.frozen (p := ⟨M, 5, none⟩) hM]; exact hf 5
  have HW := hide hw1
  have hgv' : M ≠ gv := fun e => hgv e.symm
  clear hf hb hw1 hs1
  go_enter Tryz.func176, Tryz.ntmps176
  go_wp2
  go_region_with (go_at_call 216; refine HT.out.mono ?_; rintro e w' ⟨rfl, hw'⟩; obtain rfl : w1 = w' := hw'.symm)
  all_goals (go_wp2; go_ret; rw [← HW.out]; exact ⟨rfl, rfl⟩)
end Go.Proofs.YtlobegpjenabaaaGreatDoor

/- The kinds of instructions, as they walk, VI: the first procedures as they are applied, going on. -/
namespace Go.Proofs.YtlobegpjenabaaaGreatDoor
open Go.RowKit
set_option linter.unusedSimpArgs false
set_option linter.unusedVariables false

set_option maxRecDepth 100000 in
set_option maxHeartbeats 1000000 in
theorem do_ints_bad1 (w : World) (mb fb gv off cap : Nat) (t t2 : TypeId) (x y p : Value) (q : Value) (r : Bool) (a0 : w.cell? ⟨gv, off, none⟩ = some (.iface t x)) (a1 : w.cell? ⟨gv, off + 1, none⟩ = some (.iface t2 y)) (hp : p.oneCell' = true)
    (h0 : ∀ W, (Instr.typeAssert (.iface t x) 81 130 true).run Tryz.prog W = .ok (.tuple #[.int .i64 0, .bool false]) W) (k : Int) (h1 : ∀ W, (Instr.typeAssert (.iface t2 y) 81 130 true).run Tryz.prog W = .ok (.tuple #[.int .i64 k, .bool r]) W) :
    Calls Tryz.prog 211 #[.slice (some ⟨gv, off, none⟩) 2 cap, .pointer (some ⟨mb, 0, none⟩), .pointer (some ⟨fb, 0, none⟩)] w (RetW (wrongV 8) w) := by
  go_enter Tryz.func211, Tryz.ntmps211
  go_wp2
  go_ret
  exact ⟨rfl, rfl⟩
set_option maxRecDepth 100000 in
set_option maxHeartbeats 1000000 in
theorem do_ints_bad2 (w : World) (mb fb gv off cap : Nat) (t t2 : TypeId) (x y : Value) (a0 : w.cell? ⟨gv, off, none⟩ = some (.iface t x)) (a1 : w.cell? ⟨gv, off + 1, none⟩ = some (.iface t2 y))
    (k : Int) (h0 : ∀ W, (Instr.typeAssert (.iface t x) 81 130 true).run Tryz.prog W = .ok (.tuple #[.int .i64 k, .bool true]) W) (h1 : ∀ W, (Instr.typeAssert (.iface t2 y) 81 130 true).run Tryz.prog W = .ok (.tuple #[.int .i64 0, .bool false]) W) :
    Calls Tryz.prog 211 #[.slice (some ⟨gv, off, none⟩) 2 cap, .pointer (some ⟨mb, 0, none⟩), .pointer (some ⟨fb, 0, none⟩)] w (RetW (wrongV 8) w) := by
  go_enter Tryz.func211, Tryz.ntmps211
  go_wp2
  go_ret
  exact ⟨rfl, rfl⟩
theorem pair_is (k : Addr) (w : World) : (Instr.typeAssert (.iface 136 (.pointer (some k))) 81 136 true).run Tryz.prog w = .ok (.tuple #[.pointer (some k), .bool true]) w := by kernel_rfl
set_option maxRecDepth 100000 in
set_option maxHeartbeats 1000000 in
theorem do_car (w : World) (M E gf mb fb gv off cap g : Nat) (n pc : Int) (old v2 : Value) (t : TypeId) (x : Value) (h : GiveOk w M E gf n pc old v2) (m0 : w.cell? ⟨mb, 0, none⟩ = some (.pointer (some ⟨M, 0, none⟩))) (f0 : w.cell? ⟨fb, 0, none⟩ = some (.func (.func 168) #[.pointer (some ⟨M, 0, none⟩)] #[]))
    (a0 : w.cell? ⟨gv, off, none⟩ = some (.iface 136 (.pointer (some ⟨g, 0, none⟩)))) (g0 : w.cell? ⟨g, 0, none⟩ = some (.iface t x)) :
    Calls Tryz.prog 214 #[.slice (some ⟨gv, off, none⟩) 1 cap, .pointer (some ⟨mb, 0, none⟩), .pointer (some ⟨fb, 0, none⟩)] w (RetW .nilIface (giveW w.drew M gf n (.iface t x))) := by
  have HG := hide (give_of h.drew t x)
  have HF := hide (car_raw w.drew M g (.iface t x) g0)
  have hi := pair_is
  clear h
  go_enter Tryz.func214, Tryz.ntmps214
  go_wp2
  go_region_with (first | (go_at_call 168; refine HF.out.mono ?_; rintro e w' ⟨rfl, rfl⟩) | (go_at_call 212; refine HG.out.mono ?_; rintro e w' ⟨rfl, rfl⟩))
  all_goals (go_wp2; go_ret; exact ⟨rfl, rfl⟩)
set_option maxRecDepth 100000 in
set_option maxHeartbeats 1000000 in
theorem do_cdr (w : World) (M E gf mb fb gv off cap g : Nat) (n pc : Int) (old v2 : Value) (t : TypeId) (x : Value) (h : GiveOk w M E gf n pc old v2) (m0 : w.cell? ⟨mb, 0, none⟩ = some (.pointer (some ⟨M, 0, none⟩))) (f0 : w.cell? ⟨fb, 0, none⟩ = some (.func (.func 169) #[.pointer (some ⟨M, 0, none⟩)] #[]))
    (a0 : w.cell? ⟨gv, off, none⟩ = some (.iface 136 (.pointer (some ⟨g, 0, none⟩)))) (g0 : w.cell? ⟨g, 1, none⟩ = some (.iface t x)) :
    Calls Tryz.prog 214 #[.slice (some ⟨gv, off, none⟩) 1 cap, .pointer (some ⟨mb, 0, none⟩), .pointer (some ⟨fb, 0, none⟩)] w (RetW .nilIface (giveW w.drew M gf n (.iface t x))) := by
  have HG := hide (give_of h.drew t x)
  have HF := hide (cdr_raw w.drew M g (.iface t x) g0)
  have hi := pair_is
  clear h
  go_enter Tryz.func214, Tryz.ntmps214
  go_wp2
  go_region_with (first | (go_at_call 169; refine HF.out.mono ?_; rintro e w' ⟨rfl, rfl⟩) | (go_at_call 212; refine HG.out.mono ?_; rintro e w' ⟨rfl, rfl⟩))
  all_goals (go_wp2; go_ret; exact ⟨rfl, rfl⟩)
set_option maxRecDepth 100000 in
set_option maxHeartbeats 1000000 in
theorem do_pair_bad (w : World) (mb fb gv off cap : Nat) (t : TypeId) (x : Value) (a0 : w.cell? ⟨gv, off, none⟩ = some (.iface t x))
    (h0 : ∀ W, (Instr.typeAssert (.iface t x) 81 136 true).run Tryz.prog W = .ok (.tuple #[.pointer none, .bool false]) W) :
    Calls Tryz.prog 214 #[.slice (some ⟨gv, off, none⟩) 1 cap, .pointer (some ⟨mb, 0, none⟩), .pointer (some ⟨fb, 0, none⟩)] w (RetW (wrongV 8) w) := by
  go_enter Tryz.func214, Tryz.ntmps214
  go_wp2
  go_ret
  exact ⟨rfl, rfl⟩
end Go.Proofs.YtlobegpjenabaaaGreatDoor

/- One step of the machine in memory, VI: the first procedures applied. -/
namespace Go.Proofs.YtlobegpjenabaaaGreatDoor
open Go.RowKit
set_option linter.unusedSimpArgs false
set_option linter.unusedVariables false

/-- A value can be given. -/
theorem RS.giveOk {B K : Nat} {w : World} {X : Nat → Prop} {ow mo mf : Nat → Option Nat} {M b : Nat} {C : Cd} {s : MS} {val app args out : Value} {top : Option Addr} {gf : Nat} (h : RS B K w X ow mo mf M b C s val app args out top gf) (hM : w.heap[M]? = some (Obj.cells (mcC b s.pc val (ptrV gf) app args (.pointer top) out 0 0 0 ⟨#[]⟩) 119 (0, 0))) (en : En) (r : List En) (hs : s.st = en :: r) : ∃ g gf0, mf en.fr = some gf0 ∧ GiveOk w M g gf0 en.nx s.pc (ptrV gf) val := by
  obtain ⟨k0, k1, k2, k3, k4, k5, k6, k7, k8, k9, k10, k11⟩ := mc_cell hM
  have hst := h.st
  rw [hs] at hst
  obtain ⟨g, q, gf0, got, rfl, hg, hf0, _, _, _, hr⟩ := hst
  exact ⟨g, gf0, hf0, ne_types hg hM (by decide), lt_of_some hM, lt_of_some hg, k6, k1, k2, k3, fun o => frozen_of_block hM o, by rw [cell_of_block hg]; rfl, by rw [cell_of_block hg]; rfl⟩
/-- It is given. -/
theorem RS.given {B K : Nat} {w : World} {X : Nat → Prop} {ow mo mf : Nat → Option Nat} {M b : Nat} {C : Cd} {s : MS} {val app args out : Value} {top : Option Addr} {gf : Nat} (h : RS B K w X ow mo mf M b C s val app args out top gf) (hM : w.heap[M]? = some (Obj.cells (mcC b s.pc val (ptrV gf) app args (.pointer top) out 0 0 0 ⟨#[]⟩) 119 (0, 0))) (en : En) (r : List En) (hs : s.st = en :: r) (gf0 : Nat) (hf0 : mf en.fr = some gf0) (v : V) (t : TypeId) (x : Value) (hv : VX w mo v (.iface t x)) :
    ∃ X' ow', MR B K (giveW w M gf0 en.nx (.iface t x)) X' ow' M b C { s with val := some v, pc := en.nx, fr := en.fr, app := none } ∧ Gw X ow w X' ow' (giveW w M gf0 en.nx (.iface t x)) := by
  have hu : Upd (fun k => k = M) w (giveW w M gf0 en.nx (.iface t x)) := (((setM w M 2 _).setCell ⟨M, 1, none⟩ _ (fun _ => rfl)).setCell ⟨M, 3, none⟩ _ (fun _ => rfl)).drew
  exact h.go hM hu { s with val := some v, pc := en.nx, fr := en.fr, app := none } (.iface t x) app args top gf0 ((heap_setCell_same (heap_setCell_same (heap_setCell_same hM))).trans rfl) rfl rfl rfl fun h' => ⟨hv.keepM hM hu, hf0, trivial, h'.st⟩
theorem Gw.drew {X : Nat → Prop} {ow : Nat → Option Nat} {w : World} : Gw X ow w X ow w.drew := ⟨(Upd.refl _ _).drew, fun _ _ h _ => h, fun _ _ h => h, fun _ _ h => h⟩
/-- Two values that something is applied to. -/
theorem rw_two {w : World} {own : Nat → Prop} {u x y : Value} (h : Rw w 81 own own u [x, y]) : ∃ gv off cap c, u = .slice (some ⟨gv, off, none⟩) 2 cap ∧ w.heap[gv]? = some (Obj.cells c 81 (0, 0)) ∧ w.cell? ⟨gv, off, none⟩ = some x ∧ w.cell? ⟨gv, off + 1, none⟩ = some y := by
  obtain ⟨a, cap, rfl, _, _, _, hc⟩ := h.at
  obtain ⟨g, off, c, rfl, _, h1, h2⟩ := hc 0 (by simp)
  obtain ⟨g', off', c', he, _, _, h3⟩ := hc 1 (by simp)
  cases he
  exact ⟨g, off, cap, c, rfl, h1, h2, h3⟩
theorem rw_one {w : World} {own : Nat → Prop} {u x : Value} (h : Rw w 81 own own u [x]) : ∃ gv off cap c, u = .slice (some ⟨gv, off, none⟩) 1 cap ∧ w.heap[gv]? = some (Obj.cells c 81 (0, 0)) ∧ w.cell? ⟨gv, off, none⟩ = some x := by
  obtain ⟨a, cap, rfl, _, _, _, hc⟩ := h.at
  obtain ⟨g, off, c, rfl, _, h1, h2⟩ := hc 0 (by simp)
  exact ⟨g, off, cap, c, rfl, h1, h2⟩
theorem noInt_Bool (v : Value) (w : World) : (Instr.typeAssert (.iface 131 v) 81 130 true).run Tryz.prog w = .ok (.tuple #[.int .i64 0, .bool false]) w := by kernel_rfl
theorem noInt_Sym (v : Value) (w : World) : (Instr.typeAssert (.iface 134 v) 81 130 true).run Tryz.prog w = .ok (.tuple #[.int .i64 0, .bool false]) w := by kernel_rfl
theorem noInt_Empty (v : Value) (w : World) : (Instr.typeAssert (.iface 207 v) 81 130 true).run Tryz.prog w = .ok (.tuple #[.int .i64 0, .bool false]) w := by kernel_rfl
theorem noInt_Nothing (v : Value) (w : World) : (Instr.typeAssert (.iface 259 v) 81 130 true).run Tryz.prog w = .ok (.tuple #[.int .i64 0, .bool false]) w := by kernel_rfl
theorem noInt_Pair (v : Value) (w : World) : (Instr.typeAssert (.iface 136 v) 81 130 true).run Tryz.prog w = .ok (.tuple #[.int .i64 0, .bool false]) w := by kernel_rfl
theorem noInt_Proc (v : Value) (w : World) : (Instr.typeAssert (.iface 216 v) 81 130 true).run Tryz.prog w = .ok (.tuple #[.int .i64 0, .bool false]) w := by kernel_rfl
theorem noPair_Int (v : Value) (w : World) : (Instr.typeAssert (.iface 130 v) 81 136 true).run Tryz.prog w = .ok (.tuple #[.pointer none, .bool false]) w := by kernel_rfl
theorem noPair_Bool (v : Value) (w : World) : (Instr.typeAssert (.iface 131 v) 81 136 true).run Tryz.prog w = .ok (.tuple #[.pointer none, .bool false]) w := by kernel_rfl
theorem noPair_Sym (v : Value) (w : World) : (Instr.typeAssert (.iface 134 v) 81 136 true).run Tryz.prog w = .ok (.tuple #[.pointer none, .bool false]) w := by kernel_rfl
theorem noPair_Empty (v : Value) (w : World) : (Instr.typeAssert (.iface 207 v) 81 136 true).run Tryz.prog w = .ok (.tuple #[.pointer none, .bool false]) w := by kernel_rfl
theorem noPair_Nothing (v : Value) (w : World) : (Instr.typeAssert (.iface 259 v) 81 136 true).run Tryz.prog w = .ok (.tuple #[.pointer none, .bool false]) w := by kernel_rfl
theorem noPair_Proc (v : Value) (w : World) : (Instr.typeAssert (.iface 216 v) 81 136 true).run Tryz.prog w = .ok (.tuple #[.pointer none, .bool false]) w := by kernel_rfl
theorem noProc_Int (v : Value) (w : World) : (Instr.typeAssert (.iface 130 v) 81 216 true).run Tryz.prog w = .ok (.tuple #[.pointer none, .bool false]) w := by kernel_rfl
theorem noProc_Bool (v : Value) (w : World) : (Instr.typeAssert (.iface 131 v) 81 216 true).run Tryz.prog w = .ok (.tuple #[.pointer none, .bool false]) w := by kernel_rfl
theorem noProc_Sym (v : Value) (w : World) : (Instr.typeAssert (.iface 134 v) 81 216 true).run Tryz.prog w = .ok (.tuple #[.pointer none, .bool false]) w := by kernel_rfl
theorem noProc_Empty (v : Value) (w : World) : (Instr.typeAssert (.iface 207 v) 81 216 true).run Tryz.prog w = .ok (.tuple #[.pointer none, .bool false]) w := by kernel_rfl
theorem noProc_Nothing (v : Value) (w : World) : (Instr.typeAssert (.iface 259 v) 81 216 true).run Tryz.prog w = .ok (.tuple #[.pointer none, .bool false]) w := by kernel_rfl
theorem noProc_Pair (v : Value) (w : World) : (Instr.typeAssert (.iface 136 v) 81 216 true).run Tryz.prog w = .ok (.tuple #[.pointer none, .bool false]) w := by kernel_rfl
/-- What is no int. -/
theorem noInt {w : World} {mo : Nat → Option Nat} {a : V} {t : TypeId} {x : Value} (ha : VX w mo a (.iface t x)) (hn : ∀ k, a ≠ .int k) (W : World) : (Instr.typeAssert (.iface t x) 81 130 true).run Tryz.prog W = .ok (.tuple #[.int .i64 0, .bool false]) W := by
  cases a with
  | int n => exact absurd rfl (hn n)
  | bool q => cases ha; exact noInt_Bool _ W
  | sym s => obtain ⟨e, _⟩ := ha; cases e; exact noInt_Sym _ W
  | empty => cases ha; exact noInt_Empty _ W
  | nothing => cases ha; exact noInt_Nothing _ W
  | pair i p q => obtain ⟨g, u, v, _, e, _⟩ := ha; cases e; exact noInt_Pair _ W
  | proc i => obtain ⟨_, g, _, e⟩ := ha; cases e; exact noInt_Proc _ W
theorem noPair {w : World} {mo : Nat → Option Nat} {a : V} {t : TypeId} {x : Value} (ha : VX w mo a (.iface t x)) (hn : ∀ i p q, a ≠ .pair i p q) (W : World) : (Instr.typeAssert (.iface t x) 81 136 true).run Tryz.prog W = .ok (.tuple #[.pointer none, .bool false]) W := by
  cases a with
  | int n => obtain ⟨e, _⟩ := ha; cases e; exact noPair_Int _ W
  | bool q => cases ha; exact noPair_Bool _ W
  | sym s => obtain ⟨e, _⟩ := ha; cases e; exact noPair_Sym _ W
  | empty => cases ha; exact noPair_Empty _ W
  | nothing => cases ha; exact noPair_Nothing _ W
  | pair i p q => exact absurd rfl (hn i p q)
  | proc i => obtain ⟨_, g, _, e⟩ := ha; cases e; exact noPair_Proc _ W
theorem noProc {w : World} {mo : Nat → Option Nat} {a : V} {t : TypeId} {x : Value} (ha : VX w mo a (.iface t x)) (hn : ∀ i, a ≠ .proc i) (W : World) : (Instr.typeAssert (.iface t x) 81 216 true).run Tryz.prog W = .ok (.tuple #[.pointer none, .bool false]) W := by
  cases a with
  | int n => obtain ⟨e, _⟩ := ha; cases e; exact noProc_Int _ W
  | bool q => cases ha; exact noProc_Bool _ W
  | sym s => obtain ⟨e, _⟩ := ha; cases e; exact noProc_Sym _ W
  | empty => cases ha; exact noProc_Empty _ W
  | nothing => cases ha; exact noProc_Nothing _ W
  | pair i p q => obtain ⟨g, u, v, _, e, _⟩ := ha; cases e; exact noProc_Pair _ W
  | proc i => exact absurd rfl (hn i)
/-- A failure within a procedure. -/
theorem inside_step {B K : Nat} {w : World} {X : Nat → Prop} {ow mo mf : Nat → Option Nat} {M b : Nat} {C : Cd} {s : MS} {val app args out : Value} {top : Option Addr} {gf : Nat} (h : RS B K w X ow mo mf M b C s val app args out top gf) (hM : w.heap[M]? = some (Obj.cells (mcC b s.pc val (ptrV gf) app args (.pointer top) out 0 0 0 ⟨#[]⟩) 119 (0, 0))) (er : Int) (z : ByteArray) (w' : World) (hw : ∃ n, w' = w.drewN n) (hn : errS { s with app := none } er ≠ .bad) : StepPost B K X ow w M b C (errS { s with app := none } er) (.returned (insideV z (wrongV er))) w' := by
  obtain ⟨n, rfl⟩ := hw
  have hk : Below w.heap.size w (w.drewN n) := ⟨rfl, rfl, rfl, Nat.le_refl _, fun _ _ => rfl⟩
  have h' := (h.below hM hk).regs { s with app := none } val app args top gf rfl rfl rfl (h.below hM hk).val h.fr trivial (h.below hM hk).st
  unfold errS at *
  cases hst : s.st with
  | nil => rw [hst] at hn; exact absurd rfl hn
  | cons e r => exact ⟨_, 1, rfl, Nat.le_refl _, ⟨z, _, rfl, rfl⟩, X, ow, { s with app := none }, MR.self h' hM, ⟨(Upd.refl _ _).drewN n, fun _ _ h _ => h, fun _ _ h => h, fun _ _ h => h⟩, by rw [hst]; rfl, rfl⟩
end Go.Proofs.YtlobegpjenabaaaGreatDoor
