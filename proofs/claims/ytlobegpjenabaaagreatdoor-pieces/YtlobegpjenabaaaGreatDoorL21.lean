/- The kinds of instructions, as they walk, IV: the first procedures. -/
import Derived.Test.YtlobegpjenabaaaGreatDoorL01
import Derived.Deep.RegionWith
import Derived.BigRegion
import Derived.Deep.RegionHeld3
import Derived.Test.YtlobegpjenabaaaGreatDoorL20
namespace Go.Proofs.YtlobegpjenabaaaGreatDoor
open Go.RowKit
set_option linter.unusedSimpArgs false
set_option linter.unusedVariables false

set_option maxRecDepth 100000 in
set_option maxHeartbeats 1000000 in
theorem plus_raw (w : World) (M : Nat) (a b : Int) :
    Calls Tryz.prog 160 #[.pointer (some ⟨M, 0, none⟩), .int .i64 a, .int .i64 b] w (RetW (.iface 130 (.int .i64 (wrap64 (a + b)))) w) := by
  go_enter Tryz.func160, Tryz.ntmps160
  go_wp2
  go_ret
  exact ⟨rfl, rfl⟩
set_option maxRecDepth 100000 in
set_option maxHeartbeats 1000000 in
theorem minus_raw (w : World) (M : Nat) (a b : Int) :
    Calls Tryz.prog 161 #[.pointer (some ⟨M, 0, none⟩), .int .i64 a, .int .i64 b] w (RetW (.iface 130 (.int .i64 (wrap64 (a - b)))) w) := by
  go_enter Tryz.func161, Tryz.ntmps161
  go_wp2
  go_ret
  exact ⟨rfl, rfl⟩
set_option maxRecDepth 100000 in
set_option maxHeartbeats 1000000 in
theorem times_raw (w : World) (M : Nat) (a b : Int) :
    Calls Tryz.prog 162 #[.pointer (some ⟨M, 0, none⟩), .int .i64 a, .int .i64 b] w (RetW (.iface 130 (.int .i64 (wrap64 (a * b)))) w) := by
  go_enter Tryz.func162, Tryz.ntmps162
  go_wp2
  go_ret
  exact ⟨rfl, rfl⟩
set_option maxRecDepth 100000 in
set_option maxHeartbeats 1000000 in
theorem less_raw (w : World) (M : Nat) (a b : Int) :
    Calls Tryz.prog 163 #[.pointer (some ⟨M, 0, none⟩), .int .i64 a, .int .i64 b] w (RetW (.iface 131 (.bool (decide (a < b)))) w) := by
  go_enter Tryz.func163, Tryz.ntmps163
  go_wp2
  go_ret
  exact ⟨rfl, rfl⟩
set_option maxRecDepth 100000 in
set_option maxHeartbeats 1000000 in
theorem equal_raw (w : World) (M : Nat) (a b : Int) :
    Calls Tryz.prog 164 #[.pointer (some ⟨M, 0, none⟩), .int .i64 a, .int .i64 b] w (RetW (.iface 131 (.bool (a == b))) w) := by
  go_enter Tryz.func164, Tryz.ntmps164
  go_wp2
  go_ret
  exact ⟨rfl, rfl⟩
set_option maxRecDepth 100000 in
set_option maxHeartbeats 1000000 in
theorem cons_raw (w : World) (M : Nat) (t t2 : TypeId) (a b : Value) :
    Calls Tryz.prog 166 #[.pointer (some ⟨M, 0, none⟩), .iface t a, .iface t2 b] w (RetW (.iface 136 (.pointer (some ⟨w.heap.size, 0, none⟩))) (w.alloc (.cells #[.iface t a, .iface t2 b] 205))) := by
  go_enter Tryz.func166, Tryz.ntmps166
  go_wp2
  go_ret
  exact ⟨rfl, rfl⟩
set_option maxRecDepth 100000 in
set_option maxHeartbeats 1000000 in
theorem car_raw (w : World) (M g : Nat) (v : Value) (h : w.cell? ⟨g, 0, none⟩ = some v) :
    Calls Tryz.prog 168 #[.pointer (some ⟨M, 0, none⟩), .pointer (some ⟨g, 0, none⟩)] w (RetW v w) := by
  go_enter Tryz.func168, Tryz.ntmps168
  go_wp2
  go_ret
  exact ⟨rfl, rfl⟩
set_option maxRecDepth 100000 in
set_option maxHeartbeats 1000000 in
theorem cdr_raw (w : World) (M g : Nat) (v : Value) (h : w.cell? ⟨g, 1, none⟩ = some v) :
    Calls Tryz.prog 169 #[.pointer (some ⟨M, 0, none⟩), .pointer (some ⟨g, 0, none⟩)] w (RetW v w) := by
  go_enter Tryz.func169, Tryz.ntmps169
  go_wp2
  go_ret
  exact ⟨rfl, rfl⟩
set_option maxRecDepth 100000 in
set_option maxHeartbeats 1000000 in
theorem isEmpty_raw (w : World) (M : Nat) (t : TypeId) (x : Value) (r : Bool) (hq : ∀ W, (Go.binOp .eql 81 (.iface t x) (.iface 207 (.agg #[]))).run Tryz.prog W = .ok (.bool r) W) :
    Calls Tryz.prog 171 #[.pointer (some ⟨M, 0, none⟩), .iface t x] w (RetW (.iface 131 (.bool r)) w) := by
  go_enter Tryz.func171, Tryz.ntmps171
  go_wp2
  go_ret
  exact ⟨rfl, rfl⟩
set_option maxRecDepth 100000 in
set_option maxHeartbeats 1000000 in
theorem not_raw (w : World) (M : Nat) (t : TypeId) (x : Value) (r : Bool) (hq : ∀ W, (Go.binOp .eql 81 (.iface t x) (.iface 131 (.bool false))).run Tryz.prog W = .ok (.bool r) W) :
    Calls Tryz.prog 173 #[.pointer (some ⟨M, 0, none⟩), .iface t x] w (RetW (.iface 131 (.bool r)) w) := by
  go_enter Tryz.func173, Tryz.ntmps173
  go_wp2
  go_ret
  exact ⟨rfl, rfl⟩
set_option maxRecDepth 100000 in
set_option maxHeartbeats 1000000 in
theorem isPair_raw (w : World) (M : Nat) (t : TypeId) (x : Value) (r : Bool) (p : Value) (hq : ∀ W, (Instr.typeAssert (.iface t x) 81 136 true).run Tryz.prog W = .ok (.tuple #[p, .bool r]) W) :
    Calls Tryz.prog 172 #[.pointer (some ⟨M, 0, none⟩), .iface t x] w (RetW (.iface 131 (.bool r)) w) := by
  go_enter Tryz.func172, Tryz.ntmps172
  go_wp2
  go_ret
  exact ⟨rfl, rfl⟩
end Go.Proofs.YtlobegpjenabaaaGreatDoor

/- The kinds of instructions, as they walk, V: the first procedures as they are applied. -/
namespace Go.Proofs.YtlobegpjenabaaaGreatDoor
open Go.RowKit
set_option linter.unusedSimpArgs false
set_option linter.unusedVariables false

/-- A value can be given to what is to be done. -/
structure GiveOk (w : World) (M E gf : Nat) (n pc : Int) (old v2 : Value) : Prop where
  ne : E ≠ M
  ml : M < w.heap.size
  el : E < w.heap.size
  k6 : w.cell? ⟨M, 6, none⟩ = some (.pointer (some ⟨E, 0, none⟩))
  k1 : w.cell? ⟨M, 1, none⟩ = some (.int .i64 pc)
  k2 : w.cell? ⟨M, 2, none⟩ = some v2
  k3 : w.cell? ⟨M, 3, none⟩ = some old
  fz : ∀ o, w.frozen? ⟨M, o, none⟩ = false
  e3 : w.cell? ⟨E, 3, none⟩ = some (.int .i64 n)
  e2 : w.cell? ⟨E, 2, none⟩ = some (.pointer (some ⟨gf, 0, none⟩))
theorem GiveOk.drew {w : World} {M E gf : Nat} {n pc : Int} {old v2 : Value} (h : GiveOk w M E gf n pc old v2) : GiveOk w.drew M E gf n pc old v2 := ⟨h.ne, h.ml, h.el, h.k6, h.k1, h.k2, h.k3, h.fz, h.e3, h.e2⟩
theorem GiveOk.alloc {w : World} {M E gf : Nat} {n pc : Int} {old v2 : Value} (h : GiveOk w M E gf n pc old v2) (o : Obj) : GiveOk (w.alloc o) M E gf n pc old v2 := by
  have hc : ∀ k i, k < w.heap.size → (w.alloc o).cell? ⟨k, i, none⟩ = w.cell? ⟨k, i, none⟩ := fun k i hk => World.cell?_alloc_past _ _ _ hk
  refine ⟨h.ne, by simp; have := h.ml; omega, by simp; have := h.el; omega, ?_, ?_, ?_, ?_, fun i => ?_, ?_, ?_⟩
  · rw [hc _ _ h.ml]; exact h.k6
  · rw [hc _ _ h.ml]; exact h.k1
  · rw [hc _ _ h.ml]; exact h.k2
  · rw [hc _ _ h.ml]; exact h.k3
  · rw [World.frozen?_alloc_past _ _ _ h.ml]; exact h.fz i
  · rw [hc _ _ h.el]; exact h.e3
  · rw [hc _ _ h.el]; exact h.e2
/-- The world behind it. -/
def giveW (w : World) (M gf : Nat) (n : Int) (v : Value) : World := (((w.setCell ⟨M, 2, none⟩ v).setCell ⟨M, 1, none⟩ (.int .i64 n)).setCell ⟨M, 3, none⟩ (.pointer (some ⟨gf, 0, none⟩))).drew
theorem give_of {w : World} {M E gf : Nat} {n pc : Int} {old v2 : Value} (h : GiveOk w M E gf n pc old v2) (t : TypeId) (x : Value) :
    Calls Tryz.prog 212 #[.pointer (some ⟨M, 0, none⟩), .iface t x] w (RetW (.tuple #[]) (giveW w M gf n (.iface t x))) :=
  give_raw w M E gf n pc t x old v2 h.ne h.k6 h.k1 h.k2 h.k3 (h.fz 1) (h.fz 2) (h.fz 3) h.e3 h.e2

theorem int_is (k : Int) (w : World) : (Instr.typeAssert (.iface 130 (.int .i64 k)) 81 130 true).run Tryz.prog w = .ok (.tuple #[.int .i64 k, .bool true]) w := by kernel_rfl

set_option maxRecDepth 100000 in
set_option maxHeartbeats 1000000 in
theorem do_plus (w : World) (M E gf mb fb gv off cap : Nat) (n pc : Int) (old v2 : Value) (a b : Int) (h : GiveOk w M E gf n pc old v2) (m0 : w.cell? ⟨mb, 0, none⟩ = some (.pointer (some ⟨M, 0, none⟩))) (f0 : w.cell? ⟨fb, 0, none⟩ = some (.func (.func 160) #[.pointer (some ⟨M, 0, none⟩)] #[]))
    (a0 : w.cell? ⟨gv, off, none⟩ = some (.iface 130 (.int .i64 a))) (a1 : w.cell? ⟨gv, off + 1, none⟩ = some (.iface 130 (.int .i64 b))) :
    Calls Tryz.prog 211 #[.slice (some ⟨gv, off, none⟩) 2 cap, .pointer (some ⟨mb, 0, none⟩), .pointer (some ⟨fb, 0, none⟩)] w (RetW .nilIface (giveW w.drew M gf n (.iface 130 (.int .i64 (wrap64 (a + b)))))) := by
  have HG := hide (give_of h.drew 130 (.int .i64 (wrap64 (a + b))))
  have HF := hide (fun W => plus_raw W M a b)
  have hi := int_is
  clear h
  go_enter Tryz.func211, Tryz.ntmps211
  go_wp2
  go_region_with (first | (go_at_call 160; refine (HF.out _).mono ?_; rintro e w' ⟨rfl, rfl⟩) | (go_at_call 212; refine HG.out.mono ?_; rintro e w' ⟨rfl, rfl⟩))
  all_goals (go_wp2; go_ret; exact ⟨rfl, rfl⟩)
set_option maxRecDepth 100000 in
set_option maxHeartbeats 1000000 in
theorem do_minus (w : World) (M E gf mb fb gv off cap : Nat) (n pc : Int) (old v2 : Value) (a b : Int) (h : GiveOk w M E gf n pc old v2) (m0 : w.cell? ⟨mb, 0, none⟩ = some (.pointer (some ⟨M, 0, none⟩))) (f0 : w.cell? ⟨fb, 0, none⟩ = some (.func (.func 161) #[.pointer (some ⟨M, 0, none⟩)] #[]))
    (a0 : w.cell? ⟨gv, off, none⟩ = some (.iface 130 (.int .i64 a))) (a1 : w.cell? ⟨gv, off + 1, none⟩ = some (.iface 130 (.int .i64 b))) :
    Calls Tryz.prog 211 #[.slice (some ⟨gv, off, none⟩) 2 cap, .pointer (some ⟨mb, 0, none⟩), .pointer (some ⟨fb, 0, none⟩)] w (RetW .nilIface (giveW w.drew M gf n (.iface 130 (.int .i64 (wrap64 (a - b)))))) := by
  have HG := hide (give_of h.drew 130 (.int .i64 (wrap64 (a - b))))
  have HF := hide (fun W => minus_raw W M a b)
  have hi := int_is
  clear h
  go_enter Tryz.func211, Tryz.ntmps211
  go_wp2
  go_region_with (first | (go_at_call 161; refine (HF.out _).mono ?_; rintro e w' ⟨rfl, rfl⟩) | (go_at_call 212; refine HG.out.mono ?_; rintro e w' ⟨rfl, rfl⟩))
  all_goals (go_wp2; go_ret; exact ⟨rfl, rfl⟩)
set_option maxRecDepth 100000 in
set_option maxHeartbeats 1000000 in
theorem do_times (w : World) (M E gf mb fb gv off cap : Nat) (n pc : Int) (old v2 : Value) (a b : Int) (h : GiveOk w M E gf n pc old v2) (m0 : w.cell? ⟨mb, 0, none⟩ = some (.pointer (some ⟨M, 0, none⟩))) (f0 : w.cell? ⟨fb, 0, none⟩ = some (.func (.func 162) #[.pointer (some ⟨M, 0, none⟩)] #[]))
    (a0 : w.cell? ⟨gv, off, none⟩ = some (.iface 130 (.int .i64 a))) (a1 : w.cell? ⟨gv, off + 1, none⟩ = some (.iface 130 (.int .i64 b))) :
    Calls Tryz.prog 211 #[.slice (some ⟨gv, off, none⟩) 2 cap, .pointer (some ⟨mb, 0, none⟩), .pointer (some ⟨fb, 0, none⟩)] w (RetW .nilIface (giveW w.drew M gf n (.iface 130 (.int .i64 (wrap64 (a * b)))))) := by
  have HG := hide (give_of h.drew 130 (.int .i64 (wrap64 (a * b))))
  have HF := hide (fun W => times_raw W M a b)
  have hi := int_is
  clear h
  go_enter Tryz.func211, Tryz.ntmps211
  go_wp2
  go_region_with (first | (go_at_call 162; refine (HF.out _).mono ?_; rintro e w' ⟨rfl, rfl⟩) | (go_at_call 212; refine HG.out.mono ?_; rintro e w' ⟨rfl, rfl⟩))
  all_goals (go_wp2; go_ret; exact ⟨rfl, rfl⟩)
set_option maxRecDepth 100000 in
set_option maxHeartbeats 1000000 in
theorem do_less (w : World) (M E gf mb fb gv off cap : Nat) (n pc : Int) (old v2 : Value) (a b : Int) (h : GiveOk w M E gf n pc old v2) (m0 : w.cell? ⟨mb, 0, none⟩ = some (.pointer (some ⟨M, 0, none⟩))) (f0 : w.cell? ⟨fb, 0, none⟩ = some (.func (.func 163) #[.pointer (some ⟨M, 0, none⟩)] #[]))
    (a0 : w.cell? ⟨gv, off, none⟩ = some (.iface 130 (.int .i64 a))) (a1 : w.cell? ⟨gv, off + 1, none⟩ = some (.iface 130 (.int .i64 b))) :
    Calls Tryz.prog 211 #[.slice (some ⟨gv, off, none⟩) 2 cap, .pointer (some ⟨mb, 0, none⟩), .pointer (some ⟨fb, 0, none⟩)] w (RetW .nilIface (giveW w.drew M gf n (.iface 131 (.bool (decide (a < b)))))) := by
  have HG := hide (give_of h.drew 131 (.bool (decide (a < b))))
  have HF := hide (fun W => less_raw W M a b)
  have hi := int_is
  clear h
  go_enter Tryz.func211, Tryz.ntmps211
  go_wp2
  go_region_with (first | (go_at_call 163; refine (HF.out _).mono ?_; rintro e w' ⟨rfl, rfl⟩) | (go_at_call 212; refine HG.out.mono ?_; rintro e w' ⟨rfl, rfl⟩))
  all_goals (go_wp2; go_ret; exact ⟨rfl, rfl⟩)
set_option maxRecDepth 100000 in
set_option maxHeartbeats 1000000 in
theorem do_equal (w : World) (M E gf mb fb gv off cap : Nat) (n pc : Int) (old v2 : Value) (a b : Int) (h : GiveOk w M E gf n pc old v2) (m0 : w.cell? ⟨mb, 0, none⟩ = some (.pointer (some ⟨M, 0, none⟩))) (f0 : w.cell? ⟨fb, 0, none⟩ = some (.func (.func 164) #[.pointer (some ⟨M, 0, none⟩)] #[]))
    (a0 : w.cell? ⟨gv, off, none⟩ = some (.iface 130 (.int .i64 a))) (a1 : w.cell? ⟨gv, off + 1, none⟩ = some (.iface 130 (.int .i64 b))) :
    Calls Tryz.prog 211 #[.slice (some ⟨gv, off, none⟩) 2 cap, .pointer (some ⟨mb, 0, none⟩), .pointer (some ⟨fb, 0, none⟩)] w (RetW .nilIface (giveW w.drew M gf n (.iface 131 (.bool (a == b))))) := by
  have HG := hide (give_of h.drew 131 (.bool (a == b)))
  have HF := hide (fun W => equal_raw W M a b)
  have hi := int_is
  clear h
  go_enter Tryz.func211, Tryz.ntmps211
  go_wp2
  go_region_with (first | (go_at_call 164; refine (HF.out _).mono ?_; rintro e w' ⟨rfl, rfl⟩) | (go_at_call 212; refine HG.out.mono ?_; rintro e w' ⟨rfl, rfl⟩))
  all_goals (go_wp2; go_ret; exact ⟨rfl, rfl⟩)
end Go.Proofs.YtlobegpjenabaaaGreatDoor

/- The kinds of instructions, as they walk, VII: the first procedures as they are applied, going on. -/
namespace Go.Proofs.YtlobegpjenabaaaGreatDoor
open Go.RowKit
set_option linter.unusedSimpArgs false
set_option linter.unusedVariables false

theorem giveW_cell (w : World) (M gf : Nat) (n : Int) (v : Value) (k i : Nat) (hk : k ≠ M) : (giveW w M gf n v).cell? ⟨k, i, none⟩ = w.cell? ⟨k, i, none⟩ := by
  unfold giveW
  rw [World.cell?_drew, World.cell?_setCell_other _ _ _ _ (by intro h; injection h with h1; exact hk h1.symm), World.cell?_setCell_other _ _ _ _ (by intro h; injection h with h1; exact hk h1.symm), World.cell?_setCell_other _ _ _ _ (by intro h; injection h with h1; exact hk h1.symm)]

set_option maxRecDepth 100000 in
set_option maxHeartbeats 1000000 in
theorem do_isEmpty (w : World) (M E gf mb fb gv off cap : Nat) (n pc : Int) (old v2 : Value) (t : TypeId) (x : Value) (r : Bool) (h : GiveOk w M E gf n pc old v2) (m0 : w.cell? ⟨mb, 0, none⟩ = some (.pointer (some ⟨M, 0, none⟩))) (f0 : w.cell? ⟨fb, 0, none⟩ = some (.func (.func 171) #[.pointer (some ⟨M, 0, none⟩)] #[]))
    (hmb : mb ≠ M) (hfb : fb ≠ M) (hgv : gv ≠ M) (a0 : w.cell? ⟨gv, off, none⟩ = some (.iface t x)) (hq : ∀ W, (Go.binOp .eql 81 (.iface t x) (.iface 207 (.agg #[]))).run Tryz.prog W = .ok (.bool r) W) :
    Calls Tryz.prog 215 #[.slice (some ⟨gv, off, none⟩) 1 cap, .pointer (some ⟨mb, 0, none⟩), .pointer (some ⟨fb, 0, none⟩)] w (RetW .nilIface (giveW w.drew M gf n (.iface 131 (.bool r)))) := by
  have HG := hide (give_of h.drew 131 (.bool r))
  have HK := hide (show (fun (wx : World) => wx.cell? ⟨mb, 0, none⟩ = some (.pointer (some ⟨M, 0, none⟩)) ∧ wx.cell? ⟨fb, 0, none⟩ = some (.func (.func 171) #[.pointer (some ⟨M, 0, none⟩)] #[]) ∧ wx.cell? ⟨gv, off, none⟩ = some (.iface t x)) (giveW w.drew M gf n (.iface 131 (.bool r))) from ⟨(giveW_cell _ M gf n _ mb 0 hmb).trans m0, (giveW_cell _ M gf n _ fb 0 hfb).trans f0, (giveW_cell _ M gf n _ gv _ hgv).trans a0⟩)
  have HF := hide (isEmpty_raw w.drew M t x r hq)
  clear h hq
  go_enter Tryz.func215, Tryz.ntmps215
  go_wp2
  go_region_held3 (fun wx => wx.cell? ⟨mb, 0, none⟩ = some (.pointer (some ⟨M, 0, none⟩)) ∧ wx.cell? ⟨fb, 0, none⟩ = some (.func (.func 171) #[.pointer (some ⟨M, 0, none⟩)] #[]) ∧ wx.cell? ⟨gv, off, none⟩ = some (.iface t x)) (first | go_keep | exact HK.out) (first | (go_at_call 171; refine HF.out.mono ?_; rintro e w' ⟨rfl, rfl⟩) | (go_at_call 212; refine HG.out.mono ?_; rintro e w' ⟨rfl, rfl⟩))
  all_goals (go_wp2; go_ret; exact ⟨rfl, rfl⟩)
set_option maxRecDepth 100000 in
set_option maxHeartbeats 1000000 in
theorem do_not (w : World) (M E gf mb fb gv off cap : Nat) (n pc : Int) (old v2 : Value) (t : TypeId) (x : Value) (r : Bool) (h : GiveOk w M E gf n pc old v2) (m0 : w.cell? ⟨mb, 0, none⟩ = some (.pointer (some ⟨M, 0, none⟩))) (f0 : w.cell? ⟨fb, 0, none⟩ = some (.func (.func 173) #[.pointer (some ⟨M, 0, none⟩)] #[]))
    (hmb : mb ≠ M) (hfb : fb ≠ M) (hgv : gv ≠ M) (a0 : w.cell? ⟨gv, off, none⟩ = some (.iface t x)) (hq : ∀ W, (Go.binOp .eql 81 (.iface t x) (.iface 131 (.bool false))).run Tryz.prog W = .ok (.bool r) W) :
    Calls Tryz.prog 215 #[.slice (some ⟨gv, off, none⟩) 1 cap, .pointer (some ⟨mb, 0, none⟩), .pointer (some ⟨fb, 0, none⟩)] w (RetW .nilIface (giveW w.drew M gf n (.iface 131 (.bool r)))) := by
  have HG := hide (give_of h.drew 131 (.bool r))
  have HK := hide (show (fun (wx : World) => wx.cell? ⟨mb, 0, none⟩ = some (.pointer (some ⟨M, 0, none⟩)) ∧ wx.cell? ⟨fb, 0, none⟩ = some (.func (.func 173) #[.pointer (some ⟨M, 0, none⟩)] #[]) ∧ wx.cell? ⟨gv, off, none⟩ = some (.iface t x)) (giveW w.drew M gf n (.iface 131 (.bool r))) from ⟨(giveW_cell _ M gf n _ mb 0 hmb).trans m0, (giveW_cell _ M gf n _ fb 0 hfb).trans f0, (giveW_cell _ M gf n _ gv _ hgv).trans a0⟩)
  have HF := hide (not_raw w.drew M t x r hq)
  clear h hq
  go_enter Tryz.func215, Tryz.ntmps215
  go_wp2
  go_region_held3 (fun wx => wx.cell? ⟨mb, 0, none⟩ = some (.pointer (some ⟨M, 0, none⟩)) ∧ wx.cell? ⟨fb, 0, none⟩ = some (.func (.func 173) #[.pointer (some ⟨M, 0, none⟩)] #[]) ∧ wx.cell? ⟨gv, off, none⟩ = some (.iface t x)) (first | go_keep | exact HK.out) (first | (go_at_call 173; refine HF.out.mono ?_; rintro e w' ⟨rfl, rfl⟩) | (go_at_call 212; refine HG.out.mono ?_; rintro e w' ⟨rfl, rfl⟩))
  all_goals (go_wp2; go_ret; exact ⟨rfl, rfl⟩)
set_option maxRecDepth 100000 in
set_option maxHeartbeats 1000000 in
theorem do_isPair (w : World) (M E gf mb fb gv off cap : Nat) (n pc : Int) (old v2 : Value) (t : TypeId) (x p : Value) (r : Bool) (h : GiveOk w M E gf n pc old v2) (m0 : w.cell? ⟨mb, 0, none⟩ = some (.pointer (some ⟨M, 0, none⟩))) (f0 : w.cell? ⟨fb, 0, none⟩ = some (.func (.func 172) #[.pointer (some ⟨M, 0, none⟩)] #[]))
    (hmb : mb ≠ M) (hfb : fb ≠ M) (hgv : gv ≠ M) (a0 : w.cell? ⟨gv, off, none⟩ = some (.iface t x)) (hq : ∀ W, (Instr.typeAssert (.iface t x) 81 136 true).run Tryz.prog W = .ok (.tuple #[p, .bool r]) W) :
    Calls Tryz.prog 215 #[.slice (some ⟨gv, off, none⟩) 1 cap, .pointer (some ⟨mb, 0, none⟩), .pointer (some ⟨fb, 0, none⟩)] w (RetW .nilIface (giveW w.drew M gf n (.iface 131 (.bool r)))) := by
  have HG := hide (give_of h.drew 131 (.bool r))
  have HK := hide (show (fun (wx : World) => wx.cell? ⟨mb, 0, none⟩ = some (.pointer (some ⟨M, 0, none⟩)) ∧ wx.cell? ⟨fb, 0, none⟩ = some (.func (.func 172) #[.pointer (some ⟨M, 0, none⟩)] #[]) ∧ wx.cell? ⟨gv, off, none⟩ = some (.iface t x)) (giveW w.drew M gf n (.iface 131 (.bool r))) from ⟨(giveW_cell _ M gf n _ mb 0 hmb).trans m0, (giveW_cell _ M gf n _ fb 0 hfb).trans f0, (giveW_cell _ M gf n _ gv _ hgv).trans a0⟩)
  have HF := hide (isPair_raw w.drew M t x r p hq)
  clear h hq
  go_enter Tryz.func215, Tryz.ntmps215
  go_wp2
  go_region_held3 (fun wx => wx.cell? ⟨mb, 0, none⟩ = some (.pointer (some ⟨M, 0, none⟩)) ∧ wx.cell? ⟨fb, 0, none⟩ = some (.func (.func 172) #[.pointer (some ⟨M, 0, none⟩)] #[]) ∧ wx.cell? ⟨gv, off, none⟩ = some (.iface t x)) (first | go_keep | exact HK.out) (first | (go_at_call 172; refine HF.out.mono ?_; rintro e w' ⟨rfl, rfl⟩) | (go_at_call 212; refine HG.out.mono ?_; rintro e w' ⟨rfl, rfl⟩))
  all_goals (go_wp2; go_ret; exact ⟨rfl, rfl⟩)
set_option maxRecDepth 100000 in
set_option maxHeartbeats 1000000 in
theorem do_cons (w : World) (M E gf mb fb gv off cap : Nat) (n pc : Int) (old v2 : Value) (t t2 : TypeId) (x y : Value) (h : GiveOk w M E gf n pc old v2) (m0 : w.cell? ⟨mb, 0, none⟩ = some (.pointer (some ⟨M, 0, none⟩))) (f0 : w.cell? ⟨fb, 0, none⟩ = some (.func (.func 166) #[.pointer (some ⟨M, 0, none⟩)] #[])) (hmb : mb ≠ M) (hfb : fb ≠ M) (hgv : gv ≠ M) (lmb : mb < w.heap.size) (lfb : fb < w.heap.size) (lgv : gv < w.heap.size)
    (a0 : w.cell? ⟨gv, off, none⟩ = some (.iface t x)) (a1 : w.cell? ⟨gv, off + 1, none⟩ = some (.iface t2 y)) :
    Calls Tryz.prog 213 #[.slice (some ⟨gv, off, none⟩) 2 cap, .pointer (some ⟨mb, 0, none⟩), .pointer (some ⟨fb, 0, none⟩)] w (RetW .nilIface (giveW (w.drew.alloc (.cells #[.iface t x, .iface t2 y] 205)) M gf n (.iface 136 (.pointer (some ⟨w.heap.size, 0, none⟩))))) := by
  have HG := hide (give_of (h.drew.alloc (.cells #[.iface t x, .iface t2 y] 205)) 136 (.pointer (some ⟨w.heap.size, 0, none⟩)))
  have HA := hide (show (fun (wx : World) => wx.cell? ⟨mb, 0, none⟩ = some (.pointer (some ⟨M, 0, none⟩)) ∧ wx.cell? ⟨fb, 0, none⟩ = some (.func (.func 166) #[.pointer (some ⟨M, 0, none⟩)] #[]) ∧ wx.cell? ⟨gv, off, none⟩ = some (.iface t x) ∧ wx.cell? ⟨gv, off + 1, none⟩ = some (.iface t2 y)) (w.drew.alloc (.cells #[.iface t x, .iface t2 y] 205)) from ⟨(World.cell?_alloc_past _ _ _ lmb).trans m0, (World.cell?_alloc_past _ _ _ lfb).trans f0, (World.cell?_alloc_past _ _ _ lgv).trans a0, (World.cell?_alloc_past _ _ _ lgv).trans a1⟩)
  have HK := hide (show (fun (wx : World) => wx.cell? ⟨mb, 0, none⟩ = some (.pointer (some ⟨M, 0, none⟩)) ∧ wx.cell? ⟨fb, 0, none⟩ = some (.func (.func 166) #[.pointer (some ⟨M, 0, none⟩)] #[]) ∧ wx.cell? ⟨gv, off, none⟩ = some (.iface t x) ∧ wx.cell? ⟨gv, off + 1, none⟩ = some (.iface t2 y)) (giveW (w.drew.alloc (.cells #[.iface t x, .iface t2 y] 205)) M gf n (.iface 136 (.pointer (some ⟨w.heap.size, 0, none⟩)))) from ⟨(giveW_cell _ M gf n _ mb 0 hmb).trans HA.out.1, (giveW_cell _ M gf n _ fb 0 hfb).trans HA.out.2.1, (giveW_cell _ M gf n _ gv _ hgv).trans HA.out.2.2.1, (giveW_cell _ M gf n _ gv _ hgv).trans HA.out.2.2.2⟩)
  have HF := hide (cons_raw w.drew M t t2 x y)
  clear h
  go_enter Tryz.func213, Tryz.ntmps213
  go_wp2
  go_region_held3 (fun (wx : World) => wx.cell? ⟨mb, 0, none⟩ = some (.pointer (some ⟨M, 0, none⟩)) ∧ wx.cell? ⟨fb, 0, none⟩ = some (.func (.func 166) #[.pointer (some ⟨M, 0, none⟩)] #[]) ∧ wx.cell? ⟨gv, off, none⟩ = some (.iface t x) ∧ wx.cell? ⟨gv, off + 1, none⟩ = some (.iface t2 y)) (first | exact HA.out | exact HK.out | go_keep) (first | (go_at_call 166; refine HF.out.mono ?_; rintro e w' ⟨rfl, rfl⟩) | (go_at_call 212; refine HG.out.mono ?_; rintro e w' ⟨rfl, rfl⟩))
  all_goals (go_wp2; go_ret; exact ⟨rfl, rfl⟩)
end Go.Proofs.YtlobegpjenabaaaGreatDoor

/- The kinds of instructions, as they walk, VIII: a lambda is entered; call/cc; the table; a look. -/
namespace Go.Proofs.YtlobegpjenabaaaGreatDoor
open Go.RowKit
set_option linter.unusedSimpArgs false
set_option linter.unusedVariables false

set_option maxRecDepth 100000 in
set_option maxHeartbeats 1000000 in
theorem clip_raw (w : World) (u : Option Addr) (n cap : Nat) (h : n ≤ cap) (hc : cap ≤ maxLen) :
    Calls Tryz.prog 193 #[.slice u n cap] w (RetW (.slice u n n) w) := by
  unfold maxLen at hc
  go_enter Tryz.func193, Tryz.ntmps193
  go_wp2
  go_ret
  exact ⟨rfl, rfl⟩

/-- The world behind the entering of a lambda's body. -/
def enterW (w : World) (M gf : Nat) (z : ByteArray) (ns vs : Value) (e : Int) : World :=
  (((w.setCell ⟨M, 3, none⟩ (.pointer (some ⟨w.heap.size, 0, none⟩))).setCell ⟨M, 1, none⟩ (.int .i64 e)).alloc (.cells #[.string z, ns, vs, .pointer (some ⟨gf, 0, none⟩)] 176)).drew
set_option maxRecDepth 100000 in
set_option maxHeartbeats 1000000 in
theorem enter_raw (w : World) (M nb lb ob mb gf : Nat) (z nm : ByteArray) (u : Option Addr) (nl cl : Nat) (e pc : Int) (args old : Value) (hM : M < w.heap.size) (k1 : w.cell? ⟨M, 1, none⟩ = some (.int .i64 pc)) (k3 : w.cell? ⟨M, 3, none⟩ = some old) (hf : ∀ o, w.frozen? ⟨M, o, none⟩ = false)
    (n0 : w.cell? ⟨nb, 0, none⟩ = some (.string z)) (l1 : w.cell? ⟨lb, 1, none⟩ = some (.slice u nl cl)) (l2 : w.cell? ⟨lb, 2, none⟩ = some (.int .i64 e)) (o0 : w.cell? ⟨ob, 0, none⟩ = some (.pointer (some ⟨gf, 0, none⟩))) (m0 : w.cell? ⟨mb, 0, none⟩ = some (.pointer (some ⟨M, 0, none⟩)))
    (hnb : nb ≠ M) (hlb : lb ≠ M) (hob : ob ≠ M) (hmb : mb ≠ M) (lmb : mb < w.heap.size) (llb : lb < w.heap.size) (lnb : nb < w.heap.size) (lob : ob < w.heap.size) (hnl : nl ≤ cl) (hcl : cl ≤ maxLen) (av : Option Addr) (al ac : Nat) :
    Calls Tryz.prog 192 #[.slice av al ac, .pointer (some ⟨nb, 0, none⟩), .pointer (some ⟨lb, 0, none⟩), .pointer (some ⟨ob, 0, none⟩), .pointer (some ⟨mb, 0, none⟩)] w (RetW .nilIface (enterW w M gf z (.slice u nl nl) (.slice av al ac) e)) := by
  have HC := hide (fun W => clip_raw W u nl cl hnl hcl)
  have f1 := hf 1
  have f3 := hf 3
  have hq : ∀ (k i : Nat) (v : Value) (o : Obj), k ≠ M → k < w.heap.size → ((w.setCell ⟨M, 3, none⟩ v).alloc o).cell? ⟨k, i, none⟩ = w.cell? ⟨k, i, none⟩ := fun k i v o hk hl => by
    rw [World.cell?_alloc_past _ _ _ (by simpa using hl), World.cell?_setCell_other _ _ _ _ (by intro h; injection h with h1; exact hk h1.symm)]
  have q0 : ∀ v o, ((w.setCell ⟨M, 3, none⟩ v).alloc o).cell? ⟨mb, 0, none⟩ = some (.pointer (some ⟨M, 0, none⟩)) := fun v o => (hq mb 0 v o hmb lmb).trans m0
  have q2 : ∀ v o, ((w.setCell ⟨M, 3, none⟩ v).alloc o).cell? ⟨lb, 2, none⟩ = some (.int .i64 e) := fun v o => (hq lb 2 v o hlb llb).trans l2
  have q4 : ∀ v o, ((w.setCell ⟨M, 3, none⟩ v).alloc o).cell? ⟨M, 1, none⟩ = some (.int .i64 pc) := fun v o => by
    rw [World.cell?_alloc_past _ _ _ (by simpa using hM), World.cell?_setCell_other _ _ _ _ (by simp)]; exact k1
  have q5 : ∀ v o, ((w.setCell ⟨M, 3, none⟩ v).alloc o).frozen? ⟨M, 1, none⟩ = false := fun v o => by
    rw [World.frozen?_alloc_past _ _ _ (by simpa using hM), World.frozen?_setCell]; exact f1
  have HK := hide (fun v o => And.intro ((hq mb 0 v o hmb lmb).trans m0) (And.intro ((hq nb 0 v o hnb lnb).trans n0) (And.intro ((hq lb 1 v o hlb llb).trans l1) ((hq ob 0 v o hob lob).trans o0))))
  clear hf hcl hq
  go_enter Tryz.func192, Tryz.ntmps192
  go_wp2
  go_region_held3 (fun wx => wx.cell? ⟨mb, 0, none⟩ = some (.pointer (some ⟨M, 0, none⟩)) ∧ wx.cell? ⟨nb, 0, none⟩ = some (.string z) ∧ wx.cell? ⟨lb, 1, none⟩ = some (.slice u nl cl) ∧ wx.cell? ⟨ob, 0, none⟩ = some (.pointer (some ⟨gf, 0, none⟩))) (first | exact HK.out _ _ | go_keep) (first | (go_at_call 193; refine (HC.out _).mono ?_; rintro e w' ⟨rfl, rfl⟩))
  all_goals (go_wp2; go_ret; exact ⟨rfl, rfl⟩)

end Go.Proofs.YtlobegpjenabaaaGreatDoor

/- The kinds of instructions, as they walk, X: those that call others. -/
namespace Go.Proofs.YtlobegpjenabaaaGreatDoor
open Go.RowKit
set_option linter.unusedSimpArgs false
set_option linter.unusedVariables false

set_option maxRecDepth 100000 in
set_option maxHeartbeats 1000000 in
theorem load_none (w : World) (M gf : Nat) (n : Int) (k3 : w.cell? ⟨M, 3, none⟩ = some (.pointer (some ⟨gf, 0, none⟩))) (HF : Hid (Calls Tryz.prog 191 #[.pointer (some ⟨gf, 0, none⟩), .int .i64 n] w (RetW (.pointer none) w))) :
    Calls Tryz.prog 118 #[.pointer (some ⟨M, 0, none⟩), .int .i64 n] w (RetW (wrongV 5) w) := by
  go_enter Tryz.func118, Tryz.ntmps118
  go_wp2_with fail
  refine HF.out.mono ?_
  rintro e w1 ⟨rfl, rfl⟩
  go_wp2
  go_ret
  exact ⟨rfl, rfl⟩
/-- A variable's place has been found. -/
def PlaceP (w : World) (Q : Nat → Nat → Prop) (e : Ending) (w' : World) : Prop := w' = w ∧ ∃ gv o, Q gv o ∧ e = .returned (.pointer (some ⟨gv, o, none⟩))
def LoadW (w : World) (M : Nat) (Q : Nat → Nat → Prop) (e : Ending) (w' : World) : Prop := ∃ gv o t x, Q gv o ∧ w.cell? ⟨gv, o, none⟩ = some (.iface t x) ∧ e = .returned .nilIface ∧ w' = w.setCell ⟨M, 2, none⟩ (.iface t x)
set_option maxRecDepth 100000 in
set_option maxHeartbeats 1000000 in
theorem load_some (w : World) (M gf : Nat) (n : Int) (v2 : Value) (Q : Nat → Nat → Prop) (k3 : w.cell? ⟨M, 3, none⟩ = some (.pointer (some ⟨gf, 0, none⟩))) (k2 : w.cell? ⟨M, 2, none⟩ = some v2) (f2 : w.frozen? ⟨M, 2, none⟩ = false) (HQ : Hid (∀ gv o, Q gv o → ∃ t x, w.cell? ⟨gv, o, none⟩ = some (.iface t x))) (HF : Hid (Calls Tryz.prog 191 #[.pointer (some ⟨gf, 0, none⟩), .int .i64 n] w (PlaceP w Q))) :
    Calls Tryz.prog 118 #[.pointer (some ⟨M, 0, none⟩), .int .i64 n] w (LoadW w M Q) := by
  go_enter Tryz.func118, Tryz.ntmps118
  go_wp2_with fail
  refine HF.out.mono ?_
  rintro e w1 ⟨hw, gv, o, hq, rfl⟩
  obtain rfl : w = w1 := hw.symm
  obtain ⟨t, x, hx⟩ := HQ.out gv o hq
  have H := hide (And.intro hq hx)
  clear hq
  go_wp2
  go_ret
  exact ⟨gv, o, t, x, H.out.1, H.out.2, rfl, rfl⟩
set_option maxRecDepth 100000 in
set_option maxHeartbeats 1000000 in
theorem set_none (w : World) (M E gf : Nat) (n : Int) (q : Option Addr) (k6 : w.cell? ⟨M, 6, none⟩ = some (.pointer (some ⟨E, 0, none⟩))) (f6 : w.frozen? ⟨M, 6, none⟩ = false) (e0 : w.cell? ⟨E, 0, none⟩ = some (.pointer q)) (k3 : w.cell? ⟨M, 3, none⟩ = some (.pointer (some ⟨gf, 0, none⟩))) (HF : Hid (Calls Tryz.prog 191 #[.pointer (some ⟨gf, 0, none⟩), .int .i64 n] (w.setCell ⟨M, 6, none⟩ (.pointer q)) (RetW (.pointer none) (w.setCell ⟨M, 6, none⟩ (.pointer q))))) :
    Calls Tryz.prog 126 #[.pointer (some ⟨M, 0, none⟩), .int .i64 n] w (RetW (wrongV 5) (w.setCell ⟨M, 6, none⟩ (.pointer q))) := by
  go_enter Tryz.func126, Tryz.ntmps126
  go_wp2_with fail
  refine HF.out.mono ?_
  rintro e w1 ⟨rfl, rfl⟩
  go_wp2
  go_ret
  exact ⟨rfl, rfl⟩
def SetW (w : World) (M : Nat) (q : Option Addr) (v : Value) (Q : Nat → Nat → Prop) (e : Ending) (w' : World) : Prop := ∃ gv o, Q gv o ∧ e = .returned .nilIface ∧ w' = (((w.setCell ⟨M, 6, none⟩ (.pointer q)).setCell ⟨gv, o, none⟩ v).setCell ⟨M, 2, none⟩ (.iface 259 (.agg #[])))
set_option maxRecDepth 100000 in
set_option maxHeartbeats 1000000 in
theorem set_some (w : World) (M E gf : Nat) (n : Int) (q : Option Addr) (t : TypeId) (x : Value) (Q : Nat → Nat → Prop) (k6 : w.cell? ⟨M, 6, none⟩ = some (.pointer (some ⟨E, 0, none⟩))) (f6 : w.frozen? ⟨M, 6, none⟩ = false) (e0 : w.cell? ⟨E, 0, none⟩ = some (.pointer q)) (k3 : w.cell? ⟨M, 3, none⟩ = some (.pointer (some ⟨gf, 0, none⟩))) (k2 : w.cell? ⟨M, 2, none⟩ = some (.iface t x)) (f2 : w.frozen? ⟨M, 2, none⟩ = false) (HQ : Hid (∀ gv o, Q gv o → gv ≠ M ∧ (∃ y, w.cell? ⟨gv, o, none⟩ = some y) ∧ w.frozen? ⟨gv, o, none⟩ = false)) (HF : Hid (Calls Tryz.prog 191 #[.pointer (some ⟨gf, 0, none⟩), .int .i64 n] (w.setCell ⟨M, 6, none⟩ (.pointer q)) (PlaceP (w.setCell ⟨M, 6, none⟩ (.pointer q)) Q))) :
    Calls Tryz.prog 126 #[.pointer (some ⟨M, 0, none⟩), .int .i64 n] w (SetW w M q (.iface t x) Q) := by
  go_enter Tryz.func126, Tryz.ntmps126
  go_wp2_with fail
  refine HF.out.mono ?_
  rintro e w1 ⟨hw, gv, o, hq, rfl⟩
  obtain ⟨hg, ⟨y, hy⟩, fy⟩ := HQ.out gv o hq
  subst hw
  have hy1 : (w.setCell ⟨M, 6, none⟩ (.pointer q)).cell? ⟨gv, o, none⟩ = some y := (World.cell?_setCell_other _ _ _ _ (by intro h; injection h with h1; exact hg h1.symm)).trans hy
  have hy2 : ((w.setCell ⟨M, 6, none⟩ (.pointer q)).setCell ⟨gv, o, none⟩ (.iface t x)).cell? ⟨M, 2, none⟩ = some (.iface t x) := (World.cell?_setCell_other _ _ _ _ (by intro h; injection h with h1; exact hg h1)).trans ((World.cell?_setCell_other _ _ _ _ (by simp)).trans k2)
  have H := hide hq
  clear hq
  go_wp2
  go_ret
  exact ⟨gv, o, H.out, rfl, rfl⟩
/-- Behind the frame's define nothing follows but the value. -/
def DefW (M : Nat) (P : Ending → World → Prop) (e : Ending) (w' : World) : Prop := ∃ w2, e = .returned .nilIface ∧ P (.returned (.tuple #[])) w2 ∧ w' = w2.setCell ⟨M, 2, none⟩ (.iface 259 (.agg #[]))
set_option maxRecDepth 100000 in
set_option maxHeartbeats 1000000 in
theorem define_raw (w : World) (M E gf : Nat) (n : Int) (q : Option Addr) (t : TypeId) (x : Value) (P : Ending → World → Prop) (k6 : w.cell? ⟨M, 6, none⟩ = some (.pointer (some ⟨E, 0, none⟩))) (f6 : w.frozen? ⟨M, 6, none⟩ = false) (e0 : w.cell? ⟨E, 0, none⟩ = some (.pointer q)) (k3 : w.cell? ⟨M, 3, none⟩ = some (.pointer (some ⟨gf, 0, none⟩))) (k2 : w.cell? ⟨M, 2, none⟩ = some (.iface t x))
    (HD : Hid (Calls Tryz.prog 102 #[.pointer (some ⟨gf, 0, none⟩), .int .i64 n, .iface t x] (w.setCell ⟨M, 6, none⟩ (.pointer q)).drew P)) (HP : Hid (∀ e w2, P e w2 → e = .returned (.tuple #[]) ∧ w2.cell? ⟨M, 2, none⟩ = some (.iface t x) ∧ w2.frozen? ⟨M, 2, none⟩ = false)) :
    Calls Tryz.prog 125 #[.pointer (some ⟨M, 0, none⟩), .int .i64 n] w (DefW M P) := by
  go_enter Tryz.func125, Tryz.ntmps125
  go_wp2_with fail
  go_region_with (go_at_call 102; refine HD.out.mono ?_; intro e w2 hp; obtain ⟨rfl, m2, n2⟩ := HP.out e w2 hp; have H := hide hp; clear hp)
  all_goals
    go_wp2
    go_ret
    exact ⟨_, rfl, H.out, rfl⟩
/-- A new entry is the top. -/
def TopW (w : World) (M : Nat) (below : Option Addr) (depth : Int) (frame : Option Addr) (n : Int) (l : List Value) (e : Ending) (w' : World) : Prop := ∃ w2 g q, e = .returned .nilIface ∧ w' = w2.setCell ⟨M, 6, none⟩ (.pointer (some ⟨g, 0, none⟩)) ∧ Below w.heap.size w w2 ∧ w.heap.size ≤ g ∧ w2.heap[g]? = some (Obj.cells (enC below depth frame n q) 115 (0, 0)) ∧ ItR w2 q l
set_option maxRecDepth 100000 in
set_option maxHeartbeats 1000000 in
theorem next_go (w : World) (M E : Nat) (n : Int) (below frame got : Option Addr) (depth at0 : Int) (l : List Value) (hM : M < w.heap.size) (k6 : w.cell? ⟨M, 6, none⟩ = some (.pointer (some ⟨E, 0, none⟩))) (f6 : w.frozen? ⟨M, 6, none⟩ = false) (hE : w.heap[E]? = some (Obj.cells (enC below depth frame at0 got) 115 (0, 0))) (hl : ItR w got l) :
    Calls Tryz.prog 122 #[.pointer (some ⟨M, 0, none⟩), .int .i64 n] w (TopW w M below depth frame n l) := by
  have HU := hide (until_go w E below frame got depth at0 n hE)
  have HL := hide hl
  clear hE hl
  go_enter Tryz.func122, Tryz.ntmps122
  go_wp2_with fail
  refine HU.out.mono ?_
  rintro e w1 ⟨g, rfl, hg, hc, hb⟩
  have m6 : w1.cell? ⟨M, 6, none⟩ = some (.pointer (some ⟨E, 0, none⟩)) := by rw [hb.cell (p := ⟨M, 6, none⟩) hM]; exact k6
  have n6 : w1.frozen? ⟨M, 6, none⟩ = false := by rw [hb.frozen (p := ⟨M, 6, none⟩) hM]; exact f6
  have HB := hide hb
  have HC := hide hc
  have HG := hide hg
  clear hb hc hg
  go_wp2
  go_ret
  exact ⟨w1, g, got, rfl, rfl, HB.out, HG.out, HC.out, ItR.keep (Keep.of_below HB.out) _ _ HL.out⟩
set_option maxRecDepth 100000 in
set_option maxHeartbeats 1000000 in
theorem join_go (w : World) (M E : Nat) (n : Int) (below frame got : Option Addr) (depth at0 : Int) (t : TypeId) (x : Value) (l : List Value) (hll : l.length ≤ 1000000) (hM : M < w.heap.size) (k6 : w.cell? ⟨M, 6, none⟩ = some (.pointer (some ⟨E, 0, none⟩))) (f6 : w.frozen? ⟨M, 6, none⟩ = false) (k2 : w.cell? ⟨M, 2, none⟩ = some (.iface t x)) (hE : w.heap[E]? = some (Obj.cells (enC below depth frame at0 got) 115 (0, 0))) (hl : ItR w got l) :
    Calls Tryz.prog 121 #[.pointer (some ⟨M, 0, none⟩), .int .i64 n] w (TopW w M below depth frame n (.iface t x :: l)) := by
  have HW := hide (with_any w.drew E below frame got depth at0 t x l hll hE (ItR.keep (show Keep _ w w.drew from fun _ _ h => h) _ _ hl))
  clear hE hl
  go_enter Tryz.func121, Tryz.ntmps121
  go_wp2_with fail
  go_region_with (first | (go_at_call 194; refine HW.out.mono ?_; rintro e w1 ⟨q, ⟨g, rfl, hg, hc, hb⟩, hi⟩; have m6 : w1.cell? ⟨M, 6, none⟩ = some (.pointer (some ⟨E, 0, none⟩)) := (by rw [hb.cell (p := ⟨M, 6, none⟩) hM]; exact k6); have n6 : w1.frozen? ⟨M, 6, none⟩ = false := (by rw [hb.frozen (p := ⟨M, 6, none⟩) hM]; exact f6); have HQ := hide (And.intro hg (And.intro hc (And.intro hb hi))); clear hg hc hb hi) | (go_at_call 195; refine (until_go _ _ below frame _ depth at0 n HQ.out.2.1).mono ?_; rintro e w2 ⟨g2, rfl, hg2, hc2, hb2⟩; have m62 : w2.cell? ⟨M, 6, none⟩ = some (.pointer (some ⟨E, 0, none⟩)) := (by rw [hb2.cell (p := ⟨M, 6, none⟩) (Nat.lt_of_lt_of_le hM HQ.out.2.2.1.size)]; exact m6); have n62 : w2.frozen? ⟨M, 6, none⟩ = false := (by rw [hb2.frozen (p := ⟨M, 6, none⟩) (Nat.lt_of_lt_of_le hM HQ.out.2.2.1.size)]; exact n6); have HR := hide (And.intro hg2 (And.intro hc2 hb2)); clear hg2 hc2 hb2))
  all_goals
    go_wp2
    go_ret
    exact ⟨_, _, _, rfl, rfl, ((Below.refl w.heap.size w).drew).trans (HQ.out.2.2.1.trans (HR.out.2.2.mono HQ.out.2.2.1.size)), Nat.le_trans HQ.out.2.2.1.size HR.out.1, HR.out.2.1, ItR.keep (Keep.of_below HR.out.2.2) _ _ HQ.out.2.2.2⟩
end Go.Proofs.YtlobegpjenabaaaGreatDoor
