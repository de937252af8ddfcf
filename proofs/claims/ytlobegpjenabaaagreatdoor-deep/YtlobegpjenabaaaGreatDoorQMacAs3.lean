/- errors.As at a wrong that is wrapped. -/
import Derived.Test.YtlobegpjenabaaaGreatDoorQMacAs2
namespace Go.Proofs.YtlobegpjenabaaaGreatDoor
open Go.RowKit Go.Extern.Stop Go.Stop Go.Extern
set_option linter.unusedSimpArgs false
set_option linter.unusedVariables false

set_option maxRecDepth 100000 in
theorem unwrap_raw (z : ByteArray) (t : TypeId) (u : Value) (w : World) : Calls Tryz.prog 289 #[.agg #[.string z, .iface t u]] w (RetW (.iface t u) (w.alloc (.cells #[.string z, .iface t u] 178))) := by
  go_enter Tryz.func289, Tryz.ntmps289
  go_wp2
  go_ret
  exact ⟨rfl, rfl⟩
/-- The failure's number lies in the target. -/
def AsP (w : World) (g o : Nat) (er : Int) (e : Ending) (w' : World) : Prop := e = .returned (.bool true) ∧ w'.cell? ⟨g, o, none⟩ = some (.int .i64 er) ∧ Upd (fun k => k = g) w w'
set_option maxRecDepth 100000 in
set_option maxHeartbeats 4000000 in
theorem as_one (z : ByteArray) (er : Int) (g o : Nat) (q : Nat) (old : Value) (w : World) (hq : w.cell? ⟨q, 0, none⟩ = some (.pointer (some ⟨g, o, none⟩))) (ht : w.cell? ⟨g, o, none⟩ = some old) (hf : w.frozen? ⟨g, o, none⟩ = false) (hgl : g < w.heap.size) (hql : q < w.heap.size) :
    Calls Tryz.prog 80 #[.iface 178 (.agg #[.string z, .iface 107 (.agg #[.int .i64 er])]), .iface 109 (.pointer (some ⟨g, o, none⟩)), .agg #[.pointer (some ⟨7, 109, none⟩), .pointer (some ⟨q, 0, none⟩), .int .u64 150], .iface 235 (.agg #[.pointer (some ⟨7, 107, none⟩)])] w (AsP w g o er) := by
  have h77 := @run_callFunc_extern Tryz.prog 77 _ (fun args => ReflectliteValue.unpack (args.getD 0 (.tuple #[]))) Tryz.func77 (by kernel_rfl) (by kernel_rfl) (by kernel_rfl) (by kernel_rfl)
  have h131 := @run_callFunc_extern Tryz.prog 131 _ ReflectliteType.typeOf Tryz.func131 (by kernel_rfl) (by kernel_rfl) (by kernel_rfl) (by kernel_rfl)
  have h297 := @run_callFunc_extern Tryz.prog 297 _ (ReflectliteType.relation "AssignableTo" ReflectliteType.assignableTo) Tryz.func297 (by kernel_rfl) (by kernel_rfl) (by kernel_rfl) (by kernel_rfl)
  have h132 := @run_callFunc_extern Tryz.prog 132 _ (ReflectliteValue.method (ReflectliteValue.valueError "reflectlite.Value.Elem" 0) ReflectliteValue.elem) Tryz.func132 (by kernel_rfl) (by kernel_rfl) (by kernel_rfl) (by kernel_rfl)
  have h133 := @run_callFunc_extern Tryz.prog 133 _ ReflectliteValue.set Tryz.func133 (by kernel_rfl) (by kernel_rfl) (by kernel_rfl) (by kernel_rfl)
  have f_typeOfI := typeOfI
  have f_typeOfW := typeOfW
  have f_methodAssignableTo := methodAssignableTo
  have f_assignableI := assignableI
  have f_assignableW := assignableW
  have f_noAs := noAs
  have f_isUnwrap := isUnwrap
  have f_methodUnwrap := methodUnwrap
  have f_valueOfW := valueOfW
  have HU := hide (unwrap_raw z 107 (.agg #[.int .i64 er]))
  go_enter Tryz.func80, Tryz.ntmps80
  go_wp2_with fail
  refine wp_loop_rounds 2 ?_
  rw [rounds_succ]
  go_wp2_with fail
  refine (HU.out _).mono ?_
  rintro e w1 ⟨rfl, hw1⟩
  have hb1 : Below w.heap.size w w1 := by rw [hw1]; exact ((Below.refl _ w).alloc (Nat.le_refl _) _).alloc (by simp) _
  have hh : w1.heap[w.heap.size]? = some (Obj.cells #[.pointer (some ⟨7, 109, none⟩), .pointer (some ⟨q, 0, none⟩), .int .u64 150] 182 (0, 0)) := by
    rw [hw1, Below.heap_alloc _ _ _ (by simp)]
    exact Array.getElem?_push_size
  have hz1 : w1.heap.size = w.heap.size + 2 := by rw [hw1]; simp
  have c0 := cell_of_block hh 0
  have c1 := cell_of_block hh 1
  have c2 := cell_of_block hh 2
  simp only [List.getElem?_toArray, List.getElem?_cons_zero, List.getElem?_cons_succ] at c0 c1 c2
  have n132 := elemVP ⟨q, 0, none⟩ ⟨g, o, none⟩ w1 ((hb1.cell (p := ⟨q, 0, none⟩) hql).trans hq)
  have tg1 : w1.cell? ⟨g, o, none⟩ = some old := (hb1.cell (p := ⟨g, o, none⟩) hgl).trans ht
  have fg1 : w1.frozen? ⟨g, o, none⟩ = false := (hb1.frozen (p := ⟨g, o, none⟩) hgl).trans hf
  have n133 := setW ⟨g, o, none⟩ ⟨w1.heap.size, 0, none⟩ er old (w1.alloc (.cells #[.int .i64 er] 107)) ((World.cell?_alloc_at _ _ _ _ (by simp)).trans rfl) ((World.cell?_alloc_past _ _ _ (by omega)).trans tg1) ((World.frozen?_alloc_old _ _ _ (by show g ≠ _; omega)).trans fg1)
  have HB := hide hb1
  have HT := hide tg1
  have HZ := hide hz1
  clear hw1 hb1 hh tg1 fg1 hq ht hf HU hz1
  go_wp2
  rw [rounds_succ]
  go_wp2
  go_ret
  have hz := HZ.out
  refine ⟨rfl, ?_, ?_⟩
  · have : ((w1.alloc (.cells #[.int .i64 er] 107)).setCell ⟨g, o, none⟩ (.int .i64 er)).cell? ⟨g, o, none⟩ = some (.int .i64 er) := World.cell?_setCell_same _ _ _ ((World.cell?_alloc_past _ _ _ (by omega)).trans HT.out)
    exact this
  · first | exact (((Upd.of_below (fun k => k = g) HB.out).alloc _).setCell ⟨g, o, none⟩ _ (fun _ => rfl)) | exact (((Upd.of_below (fun k => k = g) HB.out).setCell ⟨g, o, none⟩ _ (fun _ => rfl)).alloc _)
set_option maxRecDepth 100000 in
set_option maxHeartbeats 4000000 in
theorem as_two (z z2 : ByteArray) (er : Int) (g o : Nat) (q : Nat) (old : Value) (w : World) (hq : w.cell? ⟨q, 0, none⟩ = some (.pointer (some ⟨g, o, none⟩))) (ht : w.cell? ⟨g, o, none⟩ = some old) (hf : w.frozen? ⟨g, o, none⟩ = false) (hgl : g < w.heap.size) (hql : q < w.heap.size) :
    Calls Tryz.prog 80 #[.iface 178 (.agg #[.string z2, .iface 178 (.agg #[.string z, .iface 107 (.agg #[.int .i64 er])])]), .iface 109 (.pointer (some ⟨g, o, none⟩)), .agg #[.pointer (some ⟨7, 109, none⟩), .pointer (some ⟨q, 0, none⟩), .int .u64 150], .iface 235 (.agg #[.pointer (some ⟨7, 107, none⟩)])] w (AsP w g o er) := by
  have h77 := @run_callFunc_extern Tryz.prog 77 _ (fun args => ReflectliteValue.unpack (args.getD 0 (.tuple #[]))) Tryz.func77 (by kernel_rfl) (by kernel_rfl) (by kernel_rfl) (by kernel_rfl)
  have h131 := @run_callFunc_extern Tryz.prog 131 _ ReflectliteType.typeOf Tryz.func131 (by kernel_rfl) (by kernel_rfl) (by kernel_rfl) (by kernel_rfl)
  have h297 := @run_callFunc_extern Tryz.prog 297 _ (ReflectliteType.relation "AssignableTo" ReflectliteType.assignableTo) Tryz.func297 (by kernel_rfl) (by kernel_rfl) (by kernel_rfl) (by kernel_rfl)
  have h132 := @run_callFunc_extern Tryz.prog 132 _ (ReflectliteValue.method (ReflectliteValue.valueError "reflectlite.Value.Elem" 0) ReflectliteValue.elem) Tryz.func132 (by kernel_rfl) (by kernel_rfl) (by kernel_rfl) (by kernel_rfl)
  have h133 := @run_callFunc_extern Tryz.prog 133 _ ReflectliteValue.set Tryz.func133 (by kernel_rfl) (by kernel_rfl) (by kernel_rfl) (by kernel_rfl)
  have f_typeOfI := typeOfI
  have f_typeOfW := typeOfW
  have f_methodAssignableTo := methodAssignableTo
  have f_assignableI := assignableI
  have f_assignableW := assignableW
  have f_noAs := noAs
  have f_isUnwrap := isUnwrap
  have f_methodUnwrap := methodUnwrap
  have f_valueOfW := valueOfW
  have HU := hide (unwrap_raw z 107 (.agg #[.int .i64 er]))
  have HU2 := hide (unwrap_raw z2 178 (.agg #[.string z, .iface 107 (.agg #[.int .i64 er])]))
  go_enter Tryz.func80, Tryz.ntmps80
  go_wp2_with fail
  refine wp_loop_rounds 3 ?_
  rw [rounds_succ]
  go_wp2_with fail
  refine (HU2.out _).mono ?_
  rintro e w0 ⟨rfl, hw0⟩
  have hz0 : w0.heap.size = w.heap.size + 2 := by rw [hw0]; simp
  have hb0 : Below w.heap.size w w0 := by rw [hw0]; exact ((Below.refl _ w).alloc (Nat.le_refl _) _).alloc (by simp) _
  have hh0 : w0.heap[w.heap.size]? = some (Obj.cells #[.pointer (some ⟨7, 109, none⟩), .pointer (some ⟨q, 0, none⟩), .int .u64 150] 182 (0, 0)) := by
    rw [hw0, Below.heap_alloc _ _ _ (by simp)]
    exact Array.getElem?_push_size
  have HB0 := hide hb0
  have HH0 := hide hh0
  have HZ0 := hide hz0
  clear hw0 hb0 hh0 hz0 HU2
  go_wp2
  rw [rounds_succ]
  go_wp2_with fail
  refine (HU.out _).mono ?_
  rintro e w1 ⟨rfl, hw1⟩
  have hb1 : Below w.heap.size w w1 := by rw [hw1]; exact HB0.out.alloc (by have := HZ0.out; omega) _
  have hh : w1.heap[w.heap.size]? = some (Obj.cells #[.pointer (some ⟨7, 109, none⟩), .pointer (some ⟨q, 0, none⟩), .int .u64 150] 182 (0, 0)) := by
    rw [hw1, Below.heap_alloc _ _ _ (by have := HZ0.out; omega)]
    exact HH0.out
  have hz1 : w1.heap.size = w.heap.size + 3 := by rw [hw1]; have := HZ0.out; simp; omega
  have c0 := cell_of_block hh 0
  have c1 := cell_of_block hh 1
  have c2 := cell_of_block hh 2
  simp only [List.getElem?_toArray, List.getElem?_cons_zero, List.getElem?_cons_succ] at c0 c1 c2
  have n132 := elemVP ⟨q, 0, none⟩ ⟨g, o, none⟩ w1 ((hb1.cell (p := ⟨q, 0, none⟩) hql).trans hq)
  have tg1 : w1.cell? ⟨g, o, none⟩ = some old := (hb1.cell (p := ⟨g, o, none⟩) hgl).trans ht
  have fg1 : w1.frozen? ⟨g, o, none⟩ = false := (hb1.frozen (p := ⟨g, o, none⟩) hgl).trans hf
  have n133 := setW ⟨g, o, none⟩ ⟨w1.heap.size, 0, none⟩ er old (w1.alloc (.cells #[.int .i64 er] 107)) ((World.cell?_alloc_at _ _ _ _ (by simp)).trans rfl) ((World.cell?_alloc_past _ _ _ (by omega)).trans tg1) ((World.frozen?_alloc_old _ _ _ (by show g ≠ _; omega)).trans fg1)
  have HB := hide hb1
  have HT := hide tg1
  have HZ := hide hz1
  clear hw1 hb1 hh tg1 fg1 hq ht hf HU hz1
  go_wp2
  rw [rounds_succ]
  go_wp2
  go_ret
  have hz := HZ.out
  refine ⟨rfl, ?_, ?_⟩
  · have : ((w1.alloc (.cells #[.int .i64 er] 107)).setCell ⟨g, o, none⟩ (.int .i64 er)).cell? ⟨g, o, none⟩ = some (.int .i64 er) := World.cell?_setCell_same _ _ _ ((World.cell?_alloc_past _ _ _ (by omega)).trans HT.out)
    exact this
  · first | exact (((Upd.of_below (fun k => k = g) HB.out).alloc _).setCell ⟨g, o, none⟩ _ (fun _ => rfl)) | exact (((Upd.of_below (fun k => k = g) HB.out).setCell ⟨g, o, none⟩ _ (fun _ => rfl)).alloc _)
set_option maxRecDepth 100000 in
set_option maxHeartbeats 4000000 in
theorem as_zero (er : Int) (g o : Nat) (q : Nat) (old : Value) (w : World) (hq : w.cell? ⟨q, 0, none⟩ = some (.pointer (some ⟨g, o, none⟩))) (ht : w.cell? ⟨g, o, none⟩ = some old) (hf : w.frozen? ⟨g, o, none⟩ = false) (hgl : g < w.heap.size) (hql : q < w.heap.size) :
    Calls Tryz.prog 80 #[.iface 107 (.agg #[.int .i64 er]), .iface 109 (.pointer (some ⟨g, o, none⟩)), .agg #[.pointer (some ⟨7, 109, none⟩), .pointer (some ⟨q, 0, none⟩), .int .u64 150], .iface 235 (.agg #[.pointer (some ⟨7, 107, none⟩)])] w (AsP w g o er) := by
  have h77 := @run_callFunc_extern Tryz.prog 77 _ (fun args => ReflectliteValue.unpack (args.getD 0 (.tuple #[]))) Tryz.func77 (by kernel_rfl) (by kernel_rfl) (by kernel_rfl) (by kernel_rfl)
  have h131 := @run_callFunc_extern Tryz.prog 131 _ ReflectliteType.typeOf Tryz.func131 (by kernel_rfl) (by kernel_rfl) (by kernel_rfl) (by kernel_rfl)
  have h297 := @run_callFunc_extern Tryz.prog 297 _ (ReflectliteType.relation "AssignableTo" ReflectliteType.assignableTo) Tryz.func297 (by kernel_rfl) (by kernel_rfl) (by kernel_rfl) (by kernel_rfl)
  have h132 := @run_callFunc_extern Tryz.prog 132 _ (ReflectliteValue.method (ReflectliteValue.valueError "reflectlite.Value.Elem" 0) ReflectliteValue.elem) Tryz.func132 (by kernel_rfl) (by kernel_rfl) (by kernel_rfl) (by kernel_rfl)
  have h133 := @run_callFunc_extern Tryz.prog 133 _ ReflectliteValue.set Tryz.func133 (by kernel_rfl) (by kernel_rfl) (by kernel_rfl) (by kernel_rfl)
  have f_typeOfI := typeOfI
  have f_typeOfW := typeOfW
  have f_methodAssignableTo := methodAssignableTo
  have f_assignableI := assignableI
  have f_assignableW := assignableW
  have f_noAs := noAs
  have f_isUnwrap := isUnwrap
  have f_methodUnwrap := methodUnwrap
  have f_valueOfW := valueOfW
  go_enter Tryz.func80, Tryz.ntmps80
  go_wp2_with fail
  obtain ⟨w1, hw1⟩ : ∃ w1, w1 = w.alloc (.cells #[.pointer (some ⟨7, 109, none⟩), .pointer (some ⟨q, 0, none⟩), .int .u64 150] 182) := ⟨_, rfl⟩
  rw [← hw1]
  have hb1 : Below w.heap.size w w1 := by rw [hw1]; exact (Below.refl _ w).alloc (Nat.le_refl _) _
  have hh : w1.heap[w.heap.size]? = some (Obj.cells #[.pointer (some ⟨7, 109, none⟩), .pointer (some ⟨q, 0, none⟩), .int .u64 150] 182 (0, 0)) := by
    rw [hw1]
    exact Array.getElem?_push_size
  have hz1 : w1.heap.size = w.heap.size + 1 := by rw [hw1]; simp
  have c0 := cell_of_block hh 0
  have c1 := cell_of_block hh 1
  have c2 := cell_of_block hh 2
  simp only [List.getElem?_toArray, List.getElem?_cons_zero, List.getElem?_cons_succ] at c0 c1 c2
  have n132 := elemVP ⟨q, 0, none⟩ ⟨g, o, none⟩ w1 ((hb1.cell (p := ⟨q, 0, none⟩) hql).trans hq)
  have tg1 : w1.cell? ⟨g, o, none⟩ = some old := (hb1.cell (p := ⟨g, o, none⟩) hgl).trans ht
  have fg1 : w1.frozen? ⟨g, o, none⟩ = false := (hb1.frozen (p := ⟨g, o, none⟩) hgl).trans hf
  have n133 := setW ⟨g, o, none⟩ ⟨w1.heap.size, 0, none⟩ er old (w1.alloc (.cells #[.int .i64 er] 107)) ((World.cell?_alloc_at _ _ _ _ (by simp)).trans rfl) ((World.cell?_alloc_past _ _ _ (by omega)).trans tg1) ((World.frozen?_alloc_old _ _ _ (by show g ≠ _; omega)).trans fg1)
  have HB := hide hb1
  have HT := hide tg1
  have HZ := hide hz1
  clear hw1 hb1 hh tg1 fg1 hq ht hf hz1
  refine wp_loop_rounds 1 ?_
  rw [rounds_succ]
  go_wp2
  go_ret
  have hz := HZ.out
  refine ⟨rfl, ?_, ?_⟩
  · have : ((w1.alloc (.cells #[.int .i64 er] 107)).setCell ⟨g, o, none⟩ (.int .i64 er)).cell? ⟨g, o, none⟩ = some (.int .i64 er) := World.cell?_setCell_same _ _ _ ((World.cell?_alloc_past _ _ _ (by omega)).trans HT.out)
    exact this
  · first | exact (((Upd.of_below (fun k => k = g) HB.out).alloc _).setCell ⟨g, o, none⟩ _ (fun _ => rfl)) | exact (((Upd.of_below (fun k => k = g) HB.out).setCell ⟨g, o, none⟩ _ (fun _ => rfl)).alloc _)
/-- errors.as, at a failure. -/
theorem as_any {er : Int} {k : Nat} {v : Value} (hv : ErrV er k v) (hk : k ≤ 2) (g o : Nat) (q : Nat) (old : Value) (w : World) (hq : w.cell? ⟨q, 0, none⟩ = some (.pointer (some ⟨g, o, none⟩))) (ht : w.cell? ⟨g, o, none⟩ = some old) (hf : w.frozen? ⟨g, o, none⟩ = false) (hgl : g < w.heap.size) (hql : q < w.heap.size) :
    Calls Tryz.prog 80 #[v, .iface 109 (.pointer (some ⟨g, o, none⟩)), .agg #[.pointer (some ⟨7, 109, none⟩), .pointer (some ⟨q, 0, none⟩), .int .u64 150], .iface 235 (.agg #[.pointer (some ⟨7, 107, none⟩)])] w (AsP w g o er) := by
  match k, hk, hv with
  | 0, _, hv =>
    have hv : v = wrongV er := hv
    subst hv
    exact as_zero er g o q old w hq ht hf hgl hql
  | 1, _, ⟨z, u, hv, hu⟩ =>
    have hu : u = wrongV er := hu
    subst hv hu
    exact as_one z er g o q old w hq ht hf hgl hql
  | 2, _, ⟨z2, u2, hv, z, u, hu2, hu⟩ =>
    have hu : u = wrongV er := hu
    subst hv hu2 hu
    exact as_two z z2 er g o q old w hq ht hf hgl hql
theorem ErrV.shape {er : Int} : ∀ {k : Nat} {v : Value}, ErrV er k v → ∃ t x, v = .iface t x
  | 0, _, h => ⟨_, _, h⟩
  | _ + 1, _, ⟨_, _, h, _⟩ => ⟨_, _, h⟩
set_option maxRecDepth 100000 in
set_option maxHeartbeats 4000000 in
theorem As_go {er : Int} {k : Nat} {v : Value} (hv : ErrV er k v) (hk : k ≤ 2) (g : Nat) (old : Value) (w : World) (hg : w.cell? ⟨0, 0, none⟩ = some (.iface 235 (.agg #[.pointer (some ⟨7, 103, none⟩)]))) (hgz : 0 < w.heap.size) (ht : w.cell? ⟨g, 0, none⟩ = some old) (hf : w.frozen? ⟨g, 0, none⟩ = false) (hgl : g < w.heap.size) :
    Calls Tryz.prog 50 #[v, .iface 109 (.pointer (some ⟨g, 0, none⟩))] w (AsP w g 0 er) := by
  obtain ⟨t, x, rfl⟩ := hv.shape
  have HAS := hide (fun (q : Nat) (W : World) h1 h2 h3 h4 h5 => as_any hv hk g 0 q old W h1 h2 h3 h4 h5)
  have h77 := @run_callFunc_extern Tryz.prog 77 _ (fun args => ReflectliteValue.unpack (args.getD 0 (.tuple #[]))) Tryz.func77 (by kernel_rfl) (by kernel_rfl) (by kernel_rfl) (by kernel_rfl)
  have h78 := @run_callFunc_extern Tryz.prog 78 _ (ReflectliteValue.methodAny (ReflectliteValue.valueError "reflectlite.Value.Type" 0) (fun t _ _ _ => ReflectliteType.toType t)) Tryz.func78 (by kernel_rfl) (by kernel_rfl) (by kernel_rfl) (by kernel_rfl)
  have h79 := @run_callFunc_extern Tryz.prog 79 _ (ReflectliteValue.method (ReflectliteValue.valueError "reflectlite.Value.IsNil" 0) ReflectliteValue.isNil) Tryz.func79 (by kernel_rfl) (by kernel_rfl) (by kernel_rfl) (by kernel_rfl)
  have h279 := @run_callFunc_extern Tryz.prog 279 _ (ReflectliteType.abiMethod fun t => do pure (.int .u8 (← Rtype.kind t))) Tryz.func279 (by kernel_rfl) (by kernel_rfl) (by kernel_rfl) (by kernel_rfl)
  have h299 := @run_callFunc_extern Tryz.prog 299 _ (ReflectliteType.method ReflectliteType.elem) Tryz.func299 (by kernel_rfl) (by kernel_rfl) (by kernel_rfl) (by kernel_rfl)
  have h300 := @run_callFunc_extern Tryz.prog 300 _ (ReflectliteType.relation "Implements" ReflectliteType.implements_) Tryz.func300 (by kernel_rfl) (by kernel_rfl) (by kernel_rfl) (by kernel_rfl)
  have f_valueOfP := valueOfP
  have f_typeP := typeP
  have f_methodKind := methodKind
  have f_methodElem := methodElem
  have f_methodImplements := methodImplements
  have f_kindPw := kindPw
  have f_kindW := kindW
  have f_elemP := elemP
  have f_implementsW := implementsW
  have n79 := isNilP ⟨w.heap.size, 0, none⟩ ⟨g, 0, none⟩ ((w.alloc (.cells #[.pointer (some ⟨g, 0, none⟩)] 109)).alloc (.cells #[.pointer (some ⟨7, 109, none⟩), .pointer (some ⟨w.heap.size, 0, none⟩), .int .u64 150] 182)) (by simp)
  have HT := hide ht
  have HF := hide hf
  clear hv ht hf
  go_enter Tryz.func50, Tryz.ntmps50
  go_wp2_with fail
  refine (HAS.out w.heap.size _ (by simp) ((World.cell?_alloc_past _ _ _ (by simp; omega)).trans ((World.cell?_alloc_past _ _ _ hgl).trans HT.out)) ((World.frozen?_alloc_old _ _ _ (by show g ≠ _; simp; omega)).trans ((World.frozen?_alloc_old _ _ _ (by show g ≠ _; omega)).trans HF.out)) (by simp; omega) (by simp; omega)).mono ?_
  rintro e w1 ⟨rfl, hc, hu⟩
  have HC := hide (And.intro hc hu)
  clear hc hu
  go_wp2
  go_ret
  exact ⟨rfl, HC.out.1, ((((Upd.refl (fun k => k = g) w).alloc _).alloc _).trans HC.out.2 (fun j _ h => h))⟩
end Go.Proofs.YtlobegpjenabaaaGreatDoor
