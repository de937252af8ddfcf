/- errors.As at a wrong that is wrapped. -/
import Derived.Test.YtlobegpjenabaaaGreatDoorL31
import Derived.Test.YtlobegpjenabaaaGreatDoorL30
import Derived.Test.YtlobegpjenabaaaGreatDoorL24
namespace Go.Proofs.YtlobegpjenabaaaGreatDoor
open Go.RowKit Go.Extern.Stop Go.Stop Go.Extern
set_option linter.unusedSimpArgs false
set_option linter.unusedVariables false

set_option maxRecDepth 100000 in
theorem unwrap_raw (z : ByteArray) (t : TypeId) (u : Value) (w : World) : Calls Tryz.prog 289 #[.agg #[.string z, .iface t u]] w (RetW (.iface t u) (w.alloc (.cells #[.string z, .iface t u] 178))) := by
  go_enter Tryz.func289, Tryz.ntmps289
  go_wp2
  go_ret
  exact ⟨rfl, rfl⟩
/-- The failure's number lies in the target. -/
def AsP (w : World) (g o : Nat) (er : Int) (e : Ending) (w' : World) : Prop := e = .returned (.bool true) ∧ w'.cell? ⟨g, o, none⟩ = some (.int .i64 er) ∧ Upd (fun k => k = g) w w'
set_option maxRecDepth 100000 in
set_option maxHeartbeats 4000000 in
theorem as_one (z : ByteArray) (er : Int) (g o : Nat) (q : Nat) (old : Value) (w : World) (hq : w.cell? ⟨q, 0, none⟩ = some (.pointer (some ⟨g, o, none⟩))) (ht : w.cell? ⟨g, o, none⟩ = some old) (hf : w.frozen? ⟨g, o, none⟩ = false) (hgl : g < w.heap.size) (hql : q < w.heap.size) :
    Calls Tryz.prog 80 #[.iface 178 (.agg #[.string z, .iface 107 (.agg #[.int .i64 er])]), .iface 109 (.pointer (some ⟨g, o, none⟩)), .agg #[.pointer (some ⟨7, 109, none⟩), .pointer (some ⟨q, 0, none⟩), .int .u64 150], .iface 235 (.agg #[.pointer (some ⟨7, 107, none⟩)])] w (AsP w g o er) := by
  have h77 := @run_callFunc_extern Tryz.prog 77 _ (fun args => ReflectliteValue.unpack (args.getD 0 (.tuple #[]))) Tryz.func77 (by kernel_rfl) (by kernel_rfl) (by kernel_rfl) (by kernel_rfl)
  have h131 := @run_callFunc_extern Tryz.prog 131 _ ReflectliteType.typeOf Tryz.func131 (by kernel_rfl) (by kernel_rfl) (by kernel_rfl) (by kernel_rfl)
  have h297 := @run_callFunc_extern Tryz.prog 297 _ (ReflectliteType.relation "AssignableTo" ReflectliteType.assignableTo) Tryz.func297 (by kernel_rfl) (by kernel_rfl) (by kernel_rfl) (by kernel_rfl)
  have h132 := @run_callFunc_extern Tryz.prog 132 _ (ReflectliteValue.method (ReflectliteValue.valueError "reflectlite.Value.Elem" 0) ReflectliteValue.elem) Tryz.func132 (by kernel_rfl) (by kernel_rfl) (by kernel_rfl) (by kernel_rfl)
  have h133 := @run_callFunc_extern Tryz.prog 133 _ ReflectliteValue.set Tryz.func133 (by kernel_rfl) (by kernel_rfl) (by kernel_rfl) (by kernel_rfl)
  have f_typeOfI := typeOfI
  have f_typeOfW := typeOfW
  have f_methodAssignableTo := methodAssignableTo
  have f_assignableI := assignableI
  have f_assignableW := assignableW
  have f_noAs := noAs
  have f_isUnwrap := isUnwrap
  have f_methodUnwrap := methodUnwrap
  have f_valueOfW := valueOfW
  have HU := hide (unwrap_raw z 107 (.agg #[.int .i64 er]))
  go_enter Tryz.func80, Tryz.ntmps80
  go_wp2_with fail
  refine wp_loop_rounds 2 ?_
  rw [rounds_succ]
  go_wp2_with fail
  refine (HU.out _).mono ?_
  rintro e w1 ⟨rfl, hw1⟩
  have hb1 : Below w.heap.size w w1 := by rw [hw1]; exact ((Below.refl _ w).alloc (Nat.le_refl _) _).alloc (by simp) _
  have hh : w1.heap[w.heap.size]? = some (Obj.cells #[.pointer (some ⟨7, 109, none⟩), .pointer (some ⟨q, 0, none⟩), .int .u64 150] 182 (0, 0)) := by
    rw [hw1, Below.heap_alloc _ _ _ (by simp)]
    exact Array.getElem?_push_size
  have hz1 : w1.heap.size = w.heap.size + 2 := by rw [hw1]; simp
  have c0 := cell_of_block hh 0
  have c1 := cell_of_block hh 1
  have c2 := cell_of_block hh 2
  simp only [List.getElem?_toArray, List.getElem?_cons_zero, List.getElem?_cons_succ] at c0 c1 c2
  have n132 := elemVP ⟨q, 0, none⟩ ⟨g, o, none⟩ w1 ((hb1.cell (p := ⟨q, 0, none⟩) hql).trans hq)
  have tg1 : w1.cell? ⟨g, o, none⟩ = some old := (hb1.cell (p := ⟨g, o, none⟩) hgl).trans ht
  have fg1 : w1.frozen? ⟨g, o, none⟩ = false := (hb1.frozen (p := ⟨g, o, none⟩) hgl).trans hf
  have n133 := setW ⟨g, o, none⟩ ⟨w1.heap.size, 0, none⟩ er old (w1.alloc (.cells #[.int .i64 er] 107)) ((World.cell?_alloc_at _ _ _ _ (by simp)).trans rfl) ((World.cell?_alloc_past _ _ _ (by omega)).trans tg1) ((World.frozen?_alloc_old _ _ _ (by show g ≠ _; omega)).trans fg1)
  have HB := hide hb1
  have HT := hide tg1
  have HZ := hide hz1
  clear hw1 hb1 hh tg1 fg1 hq ht hf HU hz1
  go_wp2
  rw [rounds_succ]
  go_wp2
  go_ret
  have hz := HZ.out
  refine ⟨rfl, ?_, ?_⟩
  · have : ((w1.alloc (.cells #[.int .i64 er] 107)).setCell ⟨g, o, none⟩ (.int .i64 er)).cell? ⟨g, o, none⟩ = some (.int .i64 er) := World.cell?_setCell_same _ _ _ ((World.cell?_alloc_past _ _ _ (by omega)).trans HT.out)
    exact this
  · first | exact (((Upd.of_below (fun k => k = g) HB.out).alloc _).setCell ⟨g, o, none⟩ _ (fun _ => rfl)) | exact (((Upd.of_below (fun k => k = g) HB.out).setCell ⟨g, o, none⟩ _ (fun _ => rfl)).alloc _)
set_option maxRecDepth 100000 in
set_option maxHeartbeats 4000000 in
theorem as_two (z z2 : ByteArray) (er : Int) (g o : Nat) (q : Nat) (old : Value) (w : World) (hq : w.cell? ⟨q, 0, none⟩ = some (.pointer (some ⟨g, o, none⟩))) (ht : w.cell? ⟨g, o, none⟩ = some old) (hf : w.frozen? ⟨g, o, none⟩ = false) (hgl : g < w.heap.size) (hql : q < w.heap.size) :
    Calls Tryz.prog 80 #[.iface 178 (.agg #[.string z2, .iface 178 (.agg #[.string z, .iface 107 (.agg #[.int .i64 er])])]), .iface 109 (.pointer (some ⟨g, o, none⟩)), .agg #[.pointer (some ⟨7, 109, none⟩), .pointer (some ⟨q, 0, none⟩), .int .u64 150], .iface 235 (.agg #[.pointer (some ⟨7, 107, none⟩)])] w (AsP w g o er) := by
  have h77 := @run_callFunc_extern Tryz.prog 77 _ (fun args => ReflectliteValue.unpack (args.getD 0 (.tuple #[]))) Tryz.func77 (by kernel_rfl) (by kernel_rfl) (by kernel_rfl) (by kernel_rfl)
  have h131 := @run_callFunc_extern Tryz.prog 131 _ ReflectliteType.typeOf Tryz.func131 (by kernel_rfl) (by kernel_rfl) (by kernel_rfl) (by kernel_rfl)
  have h297 := @run_callFunc_extern Tryz.prog 297 _ (ReflectliteType.relation "AssignableTo" ReflectliteType.assignableTo) Tryz.func297 (by kernel_rfl) (by kernel_rfl) (by kernel_rfl) (by kernel_rfl)
  have h132 := @run_callFunc_extern Tryz.prog 132 _ (ReflectliteValue.method (ReflectliteValue.valueError "reflectlite.Value.Elem" 0) ReflectliteValue.elem) Tryz.func132 (by kernel_rfl) (by kernel_rfl) (by kernel_rfl) (by kernel_rfl)
  have h133 := @run_callFunc_extern Tryz.prog 133 _ ReflectliteValue.set Tryz.func133 (by kernel_rfl) (by kernel_rfl) (by kernel_rfl) (by kernel_rfl)
  have f_typeOfI := typeOfI
  have f_typeOfW := typeOfW
  have f_methodAssignableTo := methodAssignableTo
  have f_assignableI := assignableI
  have f_assignableW := assignableW
  have f_noAs := noAs
  have f_isUnwrap := isUnwrap
  have f_methodUnwrap := methodUnwrap
  have f_valueOfW := valueOfW
  have HU := hide (unwrap_raw z 107 (.agg #[.int .i64 er]))
  have HU2 := hide (unwrap_raw z2 178 (.agg #[.string z, .iface 107 (.agg #[.int .i64 er])]))
  go_enter Tryz.func80, Tryz.ntmps80
  go_wp2_with fail
  refine wp_loop_rounds 3 ?_
  rw [rounds_succ]
  go_wp2_with fail
  refine (HU2.out _).mono ?_
  rintro e w0 ⟨rfl, hw0⟩
  have hz0 : w0.heap.size = w.heap.size + 2 := by rw [hw0]; simp
  have hb0 : Below w.heap.size w w0 := by rw [hw0]; exact ((Below.refl _ w).alloc (Nat.le_refl _) _).alloc (by simp) _
  have hh0 : w0.heap[w.heap.size]? = some (Obj.cells #[.pointer (some ⟨7, 109, none⟩), .pointer (some ⟨q, 0, none⟩), .int .u64 150] 182 (0, 0)) := by
    rw [hw0, Below.heap_alloc _ _ _ (by simp)]
    exact Array.getElem?_push_size
  have HB0 := hide hb0
  have HH0 := hide hh0
  have HZ0 := hide hz0
  clear hw0 hb0 hh0 hz0 HU2
  go_wp2
  rw [rounds_succ]
  go_wp2_with fail
  refine (HU.out _).mono ?_
  rintro e w1 ⟨rfl, hw1⟩
  have hb1 : Below w.heap.size w w1 := by rw [hw1]; exact HB0.out.alloc (by have := HZ0.out; omega) _
  have hh : w1.heap[w.heap.size]? = some (Obj.cells #[.pointer (some ⟨7, 109, none⟩), .pointer (some ⟨q, 0, none⟩), .int .u64 150] 182 (0, 0)) := by
    rw [hw1, Below.heap_alloc _ _ _ (by have := HZ0.out; omega)]
    exact HH0.out
  have hz1 : w1.heap.size = w.heap.size + 3 := by rw [hw1]; have := HZ0.out; simp; omega
  have c0 := cell_of_block hh 0
  have c1 := cell_of_block hh 1
  have c2 := cell_of_block hh 2
  simp only [List.getElem?_toArray, List.getElem?_cons_zero, List.getElem?_cons_succ] at c0 c1 c2
  have n132 := elemVP ⟨q, 0, none⟩ ⟨g, o, none⟩ w1 ((hb1.cell (p := ⟨q, 0, none⟩) hql).trans hq)
  have tg1 : w1.cell? ⟨g, o, none⟩ = some old := (hb1.cell (p := ⟨g, o, none⟩) hgl).trans ht
  have fg1 : w1.frozen? ⟨g, o, none⟩ = false := (hb1.frozen (p := ⟨g, o, none⟩) hgl).trans hf
  have n133 := setW ⟨g, o, none⟩ ⟨w1.heap.size, 0, none⟩ er old (w1.alloc (.cells #[.int .i64 er] 107)) ((World.cell?_alloc_at _ _ _ _ (by simp)).trans rfl) ((World.cell?_alloc_past _ _ _ (by omega)).trans tg1) ((World.frozen?_alloc_old _ _ _ (by show g ≠ _; omega)).trans fg1)
  have HB := hide hb1
  have HT := hide tg1
  have HZ := hide hz1
  clear hw1 hb1 hh tg1 fg1 hq ht hf HU hz1
  go_wp2
  rw [rounds_succ]
  go_wp2
  go_ret
  have hz := HZ.out
  refine ⟨rfl, ?_, ?_⟩
  · have : ((w1.alloc (.cells #[.int .i64 er] 107)).setCell ⟨g, o, none⟩ (.int .i64 er)).cell? ⟨g, o, none⟩ = some (.int .i64 er) := World.cell?_setCell_same _ _ _ ((World.cell?_alloc_past _ _ _ (by omega)).trans HT.out)
    exact this
  · first | exact (((Upd.of_below (fun k => k = g) HB.out).alloc _).setCell ⟨g, o, none⟩ _ (fun _ => rfl)) | exact (((Upd.of_below (fun k => k = g) HB.out).setCell ⟨g, o, none⟩ _ (fun _ => rfl)).alloc _)
set_option maxRecDepth 100000 in
set_option maxHeartbeats 4000000 in
theorem as_zero (er : Int) (g o : Nat) (q : Nat) (old : Value) (w : World) (hq : w.cell? ⟨q, 0, none⟩ = some (.pointer (some ⟨g, o, none⟩))) (ht : w.cell? ⟨g, o, none⟩ = some old) (hf : w.frozen? ⟨g, o, none⟩ = false) (hgl : g < w.heap.size) (hql : q < w.heap.size) :
    Calls Tryz.prog 80 #[.iface 107 (.agg #[.int .i64 er]), .iface 109 (.pointer (some ⟨g, o, none⟩)), .agg #[.pointer (some ⟨7, 109, none⟩), .pointer (some ⟨q, 0, none⟩), .int .u64 150], .iface 235 (.agg #[.pointer (some ⟨7, 107, none⟩)])] w (AsP w g o er) := by
  have h77 := @run_callFunc_extern Tryz.prog 77 _ (fun args => ReflectliteValue.unpack (args.getD 0 (.tuple #[]))) Tryz.func77 (by kernel_rfl) (by kernel_rfl) (by kernel_rfl) (by kernel_rfl)
  have h131 := @run_callFunc_extern Tryz.prog 131 _ ReflectliteType.typeOf Tryz.func131 (by kernel_rfl) (by kernel_rfl) (by kernel_rfl) (by kernel_rfl)
  have h297 := @run_callFunc_extern Tryz.prog 297 _ (ReflectliteType.relation "AssignableTo" ReflectliteType.assignableTo) Tryz.func297 (by kernel_rfl) (by kernel_rfl) (by kernel_rfl) (by kernel_rfl)
  have h132 := @run_callFunc_extern Tryz.prog 132 _ (ReflectliteValue.method (ReflectliteValue.valueError "reflectlite.Value.Elem" 0) ReflectliteValue.elem) Tryz.func132 (by kernel_rfl) (by kernel_rfl) (by kernel_rfl) (by kernel_rfl)
  have h133 := @run_callFunc_extern Tryz.prog 133 _ ReflectliteValue.set Tryz.func133 (by kernel_rfl) (by kernel_rfl) (by kernel_rfl) (by kernel_rfl)
  have f_typeOfI := typeOfI
  have f_typeOfW := typeOfW
  have f_methodAssignableTo := methodAssignableTo
  have f_assignableI := assignableI
  have f_assignableW := assignableW
  have f_noAs := noAs
  have f_isUnwrap := isUnwrap
  have f_methodUnwrap := methodUnwrap
  have f_valueOfW := valueOfW
  go_enter Tryz.func80, Tryz.ntmps80
  go_wp2_with fail
  obtain ⟨w1, hw1⟩ : ∃ w1, w1 = w.alloc (.cells #[.pointer (some ⟨7, 109, none⟩), .pointer (some ⟨q, 0, none⟩), .int .u64 150] 182) := ⟨_, rfl⟩
  rw [← hw1]
  have hb1 : Below w.heap.size w w1 := by rw [hw1]; exact (Below.refl _ w).alloc (Nat.le_refl _) _
  have hh : w1.heap[w.heap.size]? = some (Obj.cells #[.pointer (some ⟨7, 109, none⟩), .pointer (some ⟨q, 0, none⟩), .int .u64 150] 182 (0, 0)) := by
    rw [hw1]
    exact Array.getElem?_push_size
  have hz1 : w1.heap.size = w.heap.size + 1 := by rw [hw1]; simp
  have c0 := cell_of_block hh 0
  have c1 := cell_of_block hh 1
  have c2 := cell_of_block hh 2
  simp only [List.getElem?_toArray, List.getElem?_cons_zero, List.getElem?_cons_succ] at c0 c1 c2
  have n132 := elemVP ⟨q, 0, none⟩ ⟨g, o, none⟩ w1 ((hb1.cell (p := ⟨q, 0, none⟩) hql).trans hq)
  have tg1 : w1.cell? ⟨g, o, none⟩ = some old := (hb1.cell (p := ⟨g, o, none⟩) hgl).trans ht
  have fg1 : w1.frozen? ⟨g, o, none⟩ = false := (hb1.frozen (p := ⟨g, o, none⟩) hgl).trans hf
  have n133 := setW ⟨g, o, none⟩ ⟨w1.heap.size, 0, none⟩ er old (w1.alloc (.cells #[.int .i64 er] 107)) ((World.cell?_alloc_at _ _ _ _ (by simp)).trans rfl) ((World.cell?_alloc_past _ _ _ (by omega)).trans tg1) ((World.frozen?_alloc_old _ _ _ (by show g ≠ _; omega)).trans fg1)
  have HB := hide hb1
  have HT := hide tg1
  have HZ := hide hz1
  clear hw1 hb1 hh tg1 fg1 hq ht hf hz1
  refine wp_loop_rounds 1 ?_
  rw [rounds_succ]
  go_wp2
  go_ret
  have hz := HZ.out
  refine ⟨rfl, ?_, ?_⟩
  · have : ((w1.alloc (.cells #[.int .i64 er] 107)).setCell ⟨g, o, none⟩ (.int .i64 er)).cell? ⟨g, o, none⟩ = some (.int .i64 er) := World.cell?_setCell_same _ _ _ ((World.cell?_alloc_past _ _ _ (by omega)).trans HT.out)
    exact this
  · first | exact (((Upd.of_below (fun k => k = g) HB.out).alloc _).setCell ⟨g, o, none⟩ _ (fun _ => rfl)) | exact (((Upd.of_below (fun k => k = g) HB.out).setCell ⟨g, o, none⟩ _ (fun _ => rfl)).alloc _)
/-- errors.as, at a failure. -/
theorem as_any {er : Int} {k : Nat} {v : Value} (hv : ErrV er k v) (hk : k ≤ 2) (g o : Nat) (q : Nat) (old : Value) (w : World) (hq : w.cell? ⟨q, 0, none⟩ = some (.pointer (some ⟨g, o, none⟩))) (ht : w.cell? ⟨g, o, none⟩ = some old) (hf : w.frozen? ⟨g, o, none⟩ = false) (hgl : g < w.heap.size) (hql : q < w.heap.size) :
    Calls Tryz.prog 80 #[v, .iface 109 (.pointer (some ⟨g, o, none⟩)), .agg #[.pointer (some ⟨7, 109, none⟩), .pointer (some ⟨q, 0, none⟩), .int .u64 150], .iface 235 (.agg #[.pointer (some ⟨7, 107, none⟩)])] w (AsP w g o er) := by
  match k, hk, hv with
  | 0, _, hv =>
    have hv : v = wrongV er := hv
    subst hv
    exact as_zero er g o q old w hq ht hf hgl hql
  | 1, _, ⟨z, u, hv, hu⟩ =>
    have hu : u = wrongV er := hu
    subst hv hu
    exact as_one z er g o q old w hq ht hf hgl hql
  | 2, _, ⟨z2, u2, hv, z, u, hu2, hu⟩ =>
    have hu : u = wrongV er := hu
    subst hv hu2 hu
    exact as_two z z2 er g o q old w hq ht hf hgl hql
theorem ErrV.shape {er : Int} : ∀ {k : Nat} {v : Value}, ErrV er k v → ∃ t x, v = .iface t x
  | 0, _, h => ⟨_, _, h⟩
  | _ + 1, _, ⟨_, _, h, _⟩ => ⟨_, _, h⟩
set_option maxRecDepth 100000 in
set_option maxHeartbeats 4000000 in
theorem As_go {er : Int} {k : Nat} {v : Value} (hv : ErrV er k v) (hk : k ≤ 2) (g : Nat) (old : Value) (w : World) (hg : w.cell? ⟨0, 0, none⟩ = some (.iface 235 (.agg #[.pointer (some ⟨7, 103, none⟩)]))) (hgz : 0 < w.heap.size) (ht : w.cell? ⟨g, 0, none⟩ = some old) (hf : w.frozen? ⟨g, 0, none⟩ = false) (hgl : g < w.heap.size) :
    Calls Tryz.prog 50 #[v, .iface 109 (.pointer (some ⟨g, 0, none⟩))] w (AsP w g 0 er) := by
  obtain ⟨t, x, rfl⟩ := hv.shape
  have HAS := hide (fun (q : Nat) (W : World) h1 h2 h3 h4 h5 => as_any hv hk g 0 q old W h1 h2 h3 h4 h5)
  have h77 := @run_callFunc_extern Tryz.prog 77 _ (fun args => ReflectliteValue.unpack (args.getD 0 (.tuple #[]))) Tryz.func77 (by kernel_rfl) (by kernel_rfl) (by kernel_rfl) (by kernel_rfl)
  have h78 := @run_callFunc_extern Tryz.prog 78 _ (ReflectliteValue.methodAny (ReflectliteValue.valueError "reflectlite.Value.Type" 0) (fun t _ _ _ => ReflectliteType.toType t)) Tryz.func78 (by kernel_rfl) (by kernel_rfl) (by kernel_rfl) (by kernel_rfl)
  have h79 := @run_callFunc_extern Tryz.prog 79 _ (ReflectliteValue.method (ReflectliteValue.valueError "reflectlite.Value.IsNil" 0) ReflectliteValue.isNil) Tryz.func79 (by kernel_rfl) (by kernel_rfl) (by kernel_rfl) (by kernel_rfl)
  have h279 := @run_callFunc_extern Tryz.prog 279 _ (ReflectliteType.abiMethod fun t => do pure (.int .u8 (← Rtype.kind t))) Tryz.func279 (by kernel_rfl) (by kernel_rfl) (by kernel_rfl) (by kernel_rfl)
  have h299 := @run_callFunc_extern Tryz.prog 299 _ (ReflectliteType.method ReflectliteType.elem) Tryz.func299 (by kernel_rfl) (by kernel_rfl) (by kernel_rfl) (by kernel_rfl)
  have h300 := @run_callFunc_extern Tryz.prog 300 _ (ReflectliteType.relation "Implements" ReflectliteType.implements_) Tryz.func300 (by kernel_rfl) (by kernel_rfl) (by kernel_rfl) (by kernel_rfl)
  have f_valueOfP := valueOfP
  have f_typeP := typeP
  have f_methodKind := methodKind
  have f_methodElem := methodElem
  have f_methodImplements := methodImplements
  have f_kindPw := kindPw
  have f_kindW := kindW
  have f_elemP := elemP
  have f_implementsW := implementsW
  have n79 := isNilP ⟨w.heap.size, 0, none⟩ ⟨g, 0, none⟩ ((w.alloc (.cells #[.pointer (some ⟨g, 0, none⟩)] 109)).alloc (.cells #[.pointer (some ⟨7, 109, none⟩), .pointer (some ⟨w.heap.size, 0, none⟩), .int .u64 150] 182)) (by simp)
  have HT := hide ht
  have HF := hide hf
  clear hv ht hf
  go_enter Tryz.func50, Tryz.ntmps50
  go_wp2_with fail
  refine (HAS.out w.heap.size _ (by simp) ((World.cell?_alloc_past _ _ _ (by simp; omega)).trans ((World.cell?_alloc_past _ _ _ hgl).trans HT.out)) ((World.frozen?_alloc_old _ _ _ (by show g ≠ _; simp; omega)).trans ((World.frozen?_alloc_old _ _ _ (by show g ≠ _; omega)).trans HF.out)) (by simp; omega) (by simp; omega)).mono ?_
  rintro e w1 ⟨rfl, hc, hu⟩
  have HC := hide (And.intro hc hu)
  clear hc hu
  go_wp2
  go_ret
  exact ⟨rfl, HC.out.1, ((((Upd.refl (fun k => k = g) w).alloc _).alloc _).trans HC.out.2 (fun j _ h => h))⟩
end Go.Proofs.YtlobegpjenabaaaGreatDoor

/- Run of a machine in memory, where it fails. -/
namespace Go.Proofs.YtlobegpjenabaaaGreatDoor
open Go.RowKit
set_option linter.unusedSimpArgs false
set_option linter.unusedVariables false

/-- The library's variable errors.errorType holds the type error. -/
def ErrT (w : World) : Prop := w.cell? ⟨0, 0, none⟩ = some (.iface 235 (.agg #[.pointer (some ⟨7, 103, none⟩)]))
theorem ErrT.lt {w : World} (h : ErrT w) : 0 < w.heap.size := by
  rcases Nat.lt_or_ge 0 w.heap.size with hlt | hge
  · exact hlt
  · exfalso; unfold ErrT at h; simp only [World.cell?] at h; rw [Array.getElem?_eq_none hge] at h; cases h
def RunE (w : World) (m : Nat) (P : World → Prop) (e : Ending) (w' : World) : Prop := e = .returned (.tuple #[.int .i64 (m : Nat), .int .i64 0]) ∧ P w'
set_option maxRecDepth 100000 in
set_option maxHeartbeats 2000000 in
theorem run_bad (w : World) (M n m : Nat) (er d : Int) (hn : n ≤ 100000) (P : World → Prop)
    (HG : Hid (Calls Tryz.prog 49 #[.pointer (some ⟨M, 0, none⟩), .int .i64 n] w fun e w1 => ∃ ev k c E, e = .returned (.tuple #[.int .i64 (m : Nat), ev]) ∧ k ≤ 2 ∧ ErrV er k ev ∧ ErrT w1 ∧ w1.heap[M]? = some (Obj.cells c 119 (0, 0)) ∧ c.size = 12 ∧ w1.cell? ⟨M, 6, none⟩ = some (.pointer (some ⟨E, 0, none⟩)) ∧ w1.cell? ⟨E, 1, none⟩ = some (.int .i64 d) ∧ E < w1.heap.size ∧ ∀ w2, Below w1.heap.size w1 w2 → P (stopW w2 M 2 er d ⟨#[]⟩))) :
    Calls Tryz.prog 37 #[.pointer (some ⟨M, 0, none⟩), .int .i64 n] w (RunE w m P) := by
  have h0 : ¬ ((n : Int) < 0) := by omega
  have h1 : ¬ ((100000 : Int) < (n : Int)) := by omega
  go_enter Tryz.func37, Tryz.ntmps37
  go_wp2_with fail
  refine HG.out.mono ?_
  rintro e w1 ⟨ev, k, c, E, rfl, hk, hv, hT, hM, hcs, k6, e1, hEl, hP⟩
  obtain ⟨t, x, rfl⟩ := hv.form
  have hMl := lt_of_some hM
  have HA := hide (As_go hv hk w1.heap.size (.int .i64 0) (w1.alloc (.cells #[.int .i64 0] 107)) ((World.cell?_alloc_past _ _ _ hT.lt).trans hT) (by have := hT.lt; rw [show (w1.alloc (.cells #[.int .i64 0] 107)).heap.size = w1.heap.size + 1 by simp]; omega) ((World.cell?_alloc_at _ _ _ _ (by simp)).trans rfl) (World.frozen?_alloc_new _ _ _ _) (by simp))
  have HM := hide (And.intro hM hcs)
  have HP := hide hP
  have HK := hide (And.intro k6 e1)
  clear hv hT hM hcs hP k6 e1
  go_wp2_with fail
  refine HA.out.mono ?_
  rintro e w2 ⟨rfl, hc, hu⟩
  have hb2 : Below w1.heap.size w1 w2 := ((Below.refl _ w1).alloc (Nat.le_refl _) _).trans (hu.below (by simp) (fun j hj => by omega))
  have m6 := (hb2.cell (p := ⟨M, 6, none⟩) hMl).trans HK.out.1
  have m1 := (hb2.cell (p := ⟨E, 1, none⟩) hEl).trans HK.out.2
  have hM2 := (hb2.block M hMl).trans HM.out.1
  have hcell : ∀ o, o < 12 → ∃ v, w2.drew.cell? ⟨M, o, none⟩ = some v := fun o ho => by
    refine ⟨c[o]'(by rw [HM.out.2]; exact ho), ?_⟩
    show w2.cell? _ = _
    rw [cell_of_block hM2]
    simp [HM.out.2, ho]
  have HST : Hid (Calls Tryz.prog 51 #[.pointer (some ⟨M, 0, none⟩), .agg #[.int .i64 2, .int .i64 er, .int .i64 d, .string ⟨#[]⟩]] w2.drew (RetW (.tuple #[]) (stopW w2.drew M 2 er d ⟨#[]⟩))) := by
    obtain ⟨c1, q1⟩ := hcell 1 (by omega)
    obtain ⟨c2, q2⟩ := hcell 2 (by omega)
    obtain ⟨c3, q3⟩ := hcell 3 (by omega)
    obtain ⟨c4, q4⟩ := hcell 4 (by omega)
    obtain ⟨c5, q5⟩ := hcell 5 (by omega)
    obtain ⟨c6, q6⟩ := hcell 6 (by omega)
    obtain ⟨c8, q8⟩ := hcell 8 (by omega)
    obtain ⟨c9, q9⟩ := hcell 9 (by omega)
    obtain ⟨c10, q10⟩ := hcell 10 (by omega)
    obtain ⟨c11, q11⟩ := hcell 11 (by omega)
    exact stop_raw w2.drew M c1 c2 c3 c4 c5 c6 c8 c9 c10 c11 2 er d ⟨#[]⟩ (by show M < w2.heap.size; have := hb2.size; omega) q1 q2 q3 q4 q5 q6 q8 q9 q10 q11 (fun o => frozen_of_block (w := w2.drew) hM2 o)
  have HF := hide (HP.out w2.drew hb2.drew)
  clear hcell hM2 hb2 hu HA HP HK HM
  go_wp2_with fail
  go_region_law (first | (refine step_wp rfl ?_; go_simp; go_at_call 51; refine HST.out.mono ?_; rintro e w3 ⟨rfl, rfl⟩))
  all_goals
    go_wp2
    go_ret2
    exact ⟨rfl, HF.out⟩
end Go.Proofs.YtlobegpjenabaaaGreatDoor

/- The variable errors.errorType, as the row lays it. -/
namespace Go.Proofs.YtlobegpjenabaaaGreatDoor.rws
open Go.ChangeShapes Go.WideShapes Go.ChangeAt Go.RowKit

theorem et : Tryz.prog.globalNamed "errors.errorType" = some 0 := by kernel_rfl
theorem rt : (Tryz.prog.cutTypes.find? (·.1 == "internal/reflectlite.rtype")).map (·.2) = some 235 := by kernel_rfl
theorem oneRow : ((List.range 403).filter fun t => Tryz.prog.rowNamed t [101, 114, 114, 111, 114]) = [103] := by kernel_rfl
theorem tsize : Tryz.prog.types.size = 403 := by kernel_rfl
theorem errT_of {W : World} (h : laidMetH Tryz.prog Rows.reckonsRow.laid W) : ErrT W := by
  have h2 := (laidMetH_iff.1 h).2
  rw [show (Rows.reckonsRow.laid.filter fun x => x.2.handleName?.isSome) = [("errors.errorType", Rows.laid_errors_errorType)] from by kernel_rfl] at h2
  obtain ⟨name, u, ty, e1, e2, e3, e4, e5⟩ := h2 _ (List.mem_singleton.2 rfl)
  have en : name = [101, 114, 114, 111, 114] := (Option.some.inj e1).symm
  subst en
  obtain rfl := Option.some.inj (rt.symm.trans e2)
  have hm : ty ∈ (List.range 403).filter fun t => Tryz.prog.rowNamed t [101, 114, 114, 111, 114] := List.mem_filter.2 ⟨List.mem_range.2 (by rw [← tsize]; exact e3), e4⟩
  rw [oneRow] at hm
  obtain rfl := List.mem_singleton.1 hm
  have hh : typeHandle Tryz.prog 103 = .pointer (some ⟨7, 103, none⟩) := by kernel_rfl
  rw [hh] at e5
  have := World.var?_cell et e5 0
  unfold ErrT
  simpa using this
end Go.Proofs.YtlobegpjenabaaaGreatDoor.rws

/- Run of a machine that has ended. -/
namespace Go.Proofs.YtlobegpjenabaaaGreatDoor
open Go.RowKit
set_option linter.unusedSimpArgs false
set_option linter.unusedVariables false

set_option maxRecDepth 100000 in
set_option maxHeartbeats 4000000 in
theorem goOn_end (w : World) (M n : Nat) (st : Int) (hst : (st == 0) = false) (hM : M < w.heap.size) (k8 : w.cell? ⟨M, 8, none⟩ = some (.int .i64 st)) (hn : n ≤ 100000) :
    Calls Tryz.prog 49 #[.pointer (some ⟨M, 0, none⟩), .int .i64 n] w (fun e w' => e = .returned (.tuple #[.int .i64 ((0 : Nat) : Int), .nilIface]) ∧ Below w.heap.size w w') := by
  have hsf : ∀ (W : World) (a : Addr) (m : Mode) (fn : Fn) (x y : Array Value), (store a (.func fn x y) m).run Tryz.prog W = stored Tryz.prog W a (.func fn x y) m := fun W a m fn x y => run_store _ _ _ _ _ rfl
  obtain ⟨W0, hW0⟩ : ∃ W0, W0 = (w.alloc (.cells kindA 171)).alloc (.cells kindA 171) := ⟨_, rfl⟩
  have hb0 : Below w.heap.size w W0 := by rw [hW0]; exact ((Below.refl _ _).alloc (Nat.le_refl _) _).alloc (by simp) _
  have c8 : W0.cell? ⟨M, 8, none⟩ = some (.int .i64 st) := (hb0.cell (p := ⟨M, 8, none⟩) hM).trans k8
  have HB := hide hb0
  have HR : Hid (Calls Tryz.prog 52 #[.pointer (some ⟨M, 0, none⟩)] W0 (RetW (.bool false) W0)) := by
    have := running_raw W0 M st c8
    rw [hst] at this; exact this
  have HK := hide (kinds_raw w)
  have HW := hide hW0
  clear hb0 c8 k8
  go_enter Tryz.func49, Tryz.ntmps49
  go_wp2_with fail
  refine HK.out.mono ?_
  rintro e w1 ⟨rfl, rfl⟩
  unfold kindA kindF
  go_wp2
  have hW1 := HW.out
  simp only [kindA, kindF, List.map_cons, List.map_nil] at hW1
  rw [← hW1]
  clear hW1 HW hW0 HK hsf
  go_loopw [7] (fun v wr => v = .int .i64 0 ∧ wr = W0) (fun _ _ => 0)
  case atStart => exact ⟨rfl, rfl⟩
  case round =>
    obtain ⟨rfl, hwr⟩ := hrel
    obtain rfl : W0 = wr := hwr.symm
    go_wp2_with fail
    refine HR.out.mono ?_
    rintro e wx ⟨rfl, hwx⟩
    obtain rfl : W0 = wx := hwx.symm
    go_wp2
    go_ret2
    exact ⟨rfl, HB.out⟩
/-- A machine that has ended stays as it is. -/
theorem run_end {B : Nat} {w : World} {X : Nat → Prop} {ow : Nat → Option Nat} {M b : Nat} {st er de : Int} {va : List UInt8} {o : List (List UInt8)} (hst : (st == 0) = false) (h : ME B w X ow M b st er de va o) (n : Nat) (hn : n ≤ 100000) :
    Calls Tryz.prog 37 #[.pointer (some ⟨M, 0, none⟩), .int .i64 n] w (fun e w' => e = .returned (.tuple #[.int .i64 ((0 : Nat) : Int), .int .i64 0]) ∧ Below w.heap.size w w') := by
  obtain ⟨out, hM, _⟩ := h
  refine (run_nil w M n 0 hn (fun w1 => Below w.heap.size w w1) (hide (goOn_end w M n st hst (lt_of_some hM) (mc_cell hM).2.2.2.2.2.2.2.2.1 hn))).mono ?_
  rintro e w' ⟨rfl, w1, h1, h2⟩
  exact ⟨rfl, h1.trans (h2.mono h1.size)⟩
end Go.Proofs.YtlobegpjenabaaaGreatDoor

/- Two machines: one stands as it stood while the other one runs. -/
namespace Go.Proofs.YtlobegpjenabaaaGreatDoor
open Go.RowKit
set_option linter.unusedSimpArgs false
set_option linter.unusedVariables false

/-- No block is two machines' own. -/
def Apart (o1 o2 : Nat → Option Nat) : Prop := ∀ k, o1 k ≠ none → o2 k = none
theorem Apart.symm {o1 o2 : Nat → Option Nat} (h : Apart o1 o2) : Apart o2 o1 := fun k hk => by
  cases e : o1 k with
  | none => rfl
  | some t => exact absurd (h k (by rw [e]; simp)) hk
theorem Apart.gw {X X' : Nat → Prop} {o1 o1' o2 : Nat → Option Nat} {w w' : World} {B : Nat} (h : Apart o1 o2) (hg : Gw X o1 w X' o1' w') (hx : XTy w B X) (ho : ∀ k t, o2 k = some t → X k) : Apart o1' o2 := fun k hk => by
  cases e : o2 k with
  | none => rfl
  | some t =>
    obtain ⟨_, c, T, hc, _⟩ := hx k (ho k t e)
    have hl := lt_of_some hc
    have h1 : o1 k ≠ none := fun e1 => hk (hg.o2 k hl e1)
    rw [h k h1] at e; cases e
theorem MR.other {B K : Nat} {w w' : World} {X X' : Nat → Prop} {o1 o1' o2 : Nat → Option Nat} {M b : Nat} {C : Cd} {s : MS} (h : MR B K w X o2 M b C s) (hg : Gw X o1 w X' o1' w') (ha : Apart o1 o2) (h1 : ∀ k t, o1 k = some t → X k) (hx' : XTy w' B X') : MR B K w' X' o2 M b C s := by
  obtain ⟨mo, mf, val, app, args, out, top, gf, hM, hR⟩ := h
  have hn : ∀ k, o2 k ≠ none → o1 k = none := fun k hk => ha.symm k hk
  have hS : ∀ k, o1 k ≠ none → X k := fun k hk => by
    cases e : o1 k with
    | none => exact absurd e hk
    | some t => exact h1 k t e
  have hkeep : ∀ k t, o2 k = some t → k < w.heap.size → w'.heap[k]? = w.heap[k]? := fun k t hk hl => hg.upd.block k hl (fun e => e (hn k (by rw [hk]; simp)))
  have hk := KI.of_upd (B := B) (S := fun k => o1 k ≠ none) (fun k hk => hR.xty k (hS k hk)) hg.upd
  have hxx : ∀ b, b < w.heap.size → ¬ X b → ¬ X' b ∧ w'.heap[b]? = w.heap[b]? := fun b hb hn => ⟨fun h' => hn (hg.x2 b hb h'), hg.upd.block b hb (fun h' => hn (hS b h'))⟩
  refine ⟨mo, mf, val, app, args, out, top, gf, by rw [hkeep M 0 hR.owM (lt_of_some hM)]; exact hM, ?_⟩
  have hlX : ∀ k, X k → k < w.heap.size := fun k hk => by obtain ⟨_, c, T, h1, _⟩ := hR.xty k hk; exact lt_of_some h1
  have hox : ∀ k t, o2 k = some t → X' k := fun k t hk => hg.x1 k (hlX k (hR.owx k t hk)) (hR.owx k t hk) (hn k (by rw [hk]; simp))
  refine hR.gen (S := fun k => o1 k ≠ none) (X' := X') (ow' := o2) hg.upd hS hg.x2 hR.owM hox (fun k hX _ => (hx' k hX).2) s.app app args (hR.app.keep (hk _ (by decide)) (Le.refl _) fun b c hb hc => ⟨hb, by rw [hkeep b 0 hb (lt_of_some hc)]; exact hc⟩) s.out out (hR.out.keep fun b c hb hc => ⟨hb, by rw [hkeep b 0 hb (lt_of_some hc)]; exact hc⟩) s.frs rfl (fun i fr hi => ?_)
  obtain ⟨g, pn, nv, vv, op, xs, q1, q2⟩ := hR.frs i fr hi
  exact ⟨g, pn, nv, vv, op, xs, q1, q2.keep (hk _ (by decide)) (Le.refl _) (Le.refl _) (fun b hb hw => ⟨hw, hkeep b _ hw hb⟩) hxx⟩
theorem ME.other {B : Nat} {w w' : World} {X X' : Nat → Prop} {o1 o1' o2 : Nat → Option Nat} {M b : Nat} {st er de : Int} {va : List UInt8} {o : List (List UInt8)} (h : ME B w X o2 M b st er de va o) (hg : Gw X o1 w X' o1' w') (ha : Apart o1 o2) (h1 : ∀ k t, o1 k = some t → X k) (hx' : XTy w' B X') : ME B w' X' o2 M b st er de va o := by
  obtain ⟨out, hM, hO, hox, hxt, hm, ht⟩ := h
  have hn : ∀ k, o2 k ≠ none → o1 k = none := fun k hk => ha.symm k hk
  have hS : ∀ k, o1 k ≠ none → X k := fun k hk => by
    cases e : o1 k with
    | none => exact absurd e hk
    | some t => exact h1 k t e
  have hkeep : ∀ k t, o2 k = some t → k < w.heap.size → w'.heap[k]? = w.heap[k]? := fun k t hk hl => hg.upd.block k hl (fun e => e (hn k (by rw [hk]; simp)))
  have hlX : ∀ k, X k → k < w.heap.size := fun k hk => by obtain ⟨_, c, T, h1, _⟩ := hxt k hk; exact lt_of_some h1
  have hBw : B ≤ w.heap.size := by have := (hxt M (hox M 0 hm)).1; have := lt_of_some hM; omega
  refine ⟨out, by rw [hkeep M 0 hm (lt_of_some hM)]; exact hM, hO.keep (fun b c hb hc => ⟨hb, by rw [hkeep b 0 hb (lt_of_some hc)]; exact hc⟩), fun k t hk => hg.x1 k (hlX k (hox k t hk)) (hox k t hk) (hn k (by rw [hk]; simp)), hx', hm, ht.below (hg.upd.below hBw (fun k hk => (hxt k (hS k hk)).1))⟩
end Go.Proofs.YtlobegpjenabaaaGreatDoor

/- A machine of package lathe: Run and Look, as it stands. -/
namespace Go.Proofs.YtlobegpjenabaaaGreatDoor
open Go.RowKit
set_option linter.unusedSimpArgs false
set_option linter.unusedVariables false

theorem mlook_run {B K : Nat} {w : World} {X : Nat → Prop} {ow : Nat → Option Nat} {L M b : Nat} {C : Cd} {s : MS} (h : MR B K w X ow M b C s) (hL : LM w L M) (hs : 0 < s.st.length) :
    Calls Tryz.prog 28 #[.pointer (some ⟨L, 0, none⟩)] w (LookP w 0 0 ((s.st.length - 1 : Nat) : Int) ⟨#[]⟩) := by
  obtain ⟨mo, mf, val, app, args, out, top, gf, hM, hR⟩ := h
  obtain ⟨k0, k1, k2, k3, k4, k5, k6, k7, k8, k9, k10, k11⟩ := mc_cell hM
  have hMl := lt_of_some hM
  have hst := hR.st
  cases hq : s.st with
  | nil => rw [hq] at hs; simp at hs
  | cons e r =>
    rw [hq] at hst
    obtain ⟨g, q, gf', got, rfl, hE, _⟩ := hst
    have hEl := lt_of_some hE
    have e1 := cell_of_block hE 1
    simp only [enC, List.getElem?_toArray, List.getElem?_cons_zero, List.getElem?_cons_succ] at e1
    have hd : (((e :: r).length - 1 : Nat) : Int) = (r.length : Int) := by simp
    rw [hd]
    refine llook_go w L M 0 0 r.length ⟨#[]⟩ hL (hide fun ob => ?_)
    exact look_run _ M g r.length (by simp; omega) (by simp; omega) ((World.cell?_alloc_past _ _ _ hMl).trans k8) ((World.cell?_alloc_past _ _ _ hMl).trans k6) ((World.cell?_alloc_past _ _ _ hEl).trans e1)
theorem mlook_end {B : Nat} {w : World} {X : Nat → Prop} {ow : Nat → Option Nat} {L M b : Nat} {st er de : Int} {t : List UInt8} {o : List (List UInt8)} (hst : (st == 0) = false) (h : ME B w X ow M b st er de t o) (hL : LM w L M) :
    Calls Tryz.prog 28 #[.pointer (some ⟨L, 0, none⟩)] w (LookP w st er de ⟨t.toArray⟩) := by
  obtain ⟨out, hM, _⟩ := h
  obtain ⟨k0, k1, k2, k3, k4, k5, k6, k7, k8, k9, k10, k11⟩ := mc_cell hM
  have hMl := lt_of_some hM
  refine llook_go w L M st er de ⟨t.toArray⟩ hL (hide fun ob => ?_)
  exact look_end _ M st er de ⟨t.toArray⟩ hst (by simp; omega) ((World.cell?_alloc_past _ _ _ hMl).trans k8) ((World.cell?_alloc_past _ _ _ hMl).trans k9) ((World.cell?_alloc_past _ _ _ hMl).trans k10) ((World.cell?_alloc_past _ _ _ hMl).trans k11)
end Go.Proofs.YtlobegpjenabaaaGreatDoor

/- Run of a machine in memory, where the program fails. -/
namespace Go.Proofs.YtlobegpjenabaaaGreatDoor
open Go.RowKit
set_option linter.unusedSimpArgs false
set_option linter.unusedVariables false

theorem ErrT.below {B : Nat} {w w' : World} (h : ErrT w) (hb : Below B w w') (hB : 0 < B) : ErrT w' := (hb.cell (p := ⟨0, 0, none⟩) hB).trans h
/-- A machine that has failed. -/
def FailW (B : Nat) (X : Nat → Prop) (ow : Nat → Option Nat) (w : World) (M b : Nat) (er : Int) (d : Nat) (o : List (List UInt8)) (w' : World) : Prop := ∃ X' ow', ME B w' X' ow' M b 2 er d [] o ∧ Gw X ow w X' ow' w'
theorem run_err {B K : Nat} {w : World} {X : Nat → Prop} {ow : Nat → Option Nat} {M b : Nat} {C : Cd} {s : MS} (h : MR B K w X ow M b C s) (hT : ErrT w) (hB : 0 < B) (n fuel : Nat) (hn : n ≤ 100000) (m : Nat) (er : Int) (d : Nat) (o : List (List UInt8)) (hr : goS C fuel s n 0 = some (m, .err er d o)) :
    Calls Tryz.prog 37 #[.pointer (some ⟨M, 0, none⟩), .int .i64 n] w (RunE w m (FailW B X ow w M b er d o)) := by
  have hg := goOn_go disp_c h n fuel hn (m, .err er d o) hr
  refine run_bad w M n m er d hn _ (hide (hg.mono ?_))
  rintro e w1 ⟨ev, rfl, ⟨k, hk, hv⟩, X', ow', s', hMR, hG, hs, ho⟩
  have hMR0 := hMR
  obtain ⟨mo, mf, val, app, args, out, top, gf, hM, hRS⟩ := hMR
  have hst := hRS.st
  obtain ⟨k0, k1, k2, k3, k4, k5, k6, k7, k8, k9, k10, k11⟩ := mc_cell hM
  cases hq : s'.st with
  | nil => rw [hq] at hs; simp at hs
  | cons en r =>
    rw [hq] at hst hs
    obtain ⟨g, q, gf', got, rfl, hE, _⟩ := hst
    have e1 := cell_of_block hE 1
    simp only [enC, List.getElem?_toArray, List.getElem?_cons_zero, List.getElem?_cons_succ] at e1
    have hd : r.length = d := by simpa using hs
    refine ⟨ev, k, _, g, rfl, hk, hv, hT.below (h.bel hG) hB, hM, rfl, k6, by rw [← hd]; exact e1, lt_of_some hE, fun w2 hb => ?_⟩
    obtain ⟨h1, h2⟩ := hRS.stops hM hb 2 er d []
    rw [ho] at h1
    exact ⟨X', ow', h1, hG.trans h2⟩
end Go.Proofs.YtlobegpjenabaaaGreatDoor
