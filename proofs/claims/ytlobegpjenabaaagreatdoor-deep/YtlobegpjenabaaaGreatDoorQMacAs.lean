/- errors.As at a wrong: closed facts on the model's entries for internal/reflectlite. -/
import Derived.Test.YtlobegpjenabaaaGreatDoorK34
import Derived.Stop.Asserts
namespace Go.Proofs.YtlobegpjenabaaaGreatDoor
open Go.RowKit Go.Extern.Stop Go.Stop Go.Extern
set_option linter.unusedSimpArgs false
set_option linter.unusedVariables false

theorem valueOfP (t : Addr) (w : World) : (ReflectliteValue.unpack (.iface 109 (.pointer (some t)))).run Tryz.prog w
    = .ok (.agg #[.pointer (some ⟨7, 109, none⟩), .pointer (some ⟨w.heap.size, 0, none⟩), .int .u64 150]) (w.alloc (.cells #[.pointer (some t)] 109)) := by kernel_rfl
theorem typeP (a : Addr) (w : World) : (ReflectliteValue.methodAny (ReflectliteValue.valueError "reflectlite.Value.Type" 0) (fun t _ _ _ => ReflectliteType.toType t) #[.agg #[.pointer (some ⟨7, 109, none⟩), .pointer (some a), .int .u64 150]]).run Tryz.prog w
    = .ok (.iface 235 (.agg #[.pointer (some ⟨7, 109, none⟩)])) w := by kernel_rfl
theorem methodKind (h : Value) (w : World) : (Go.method 503 235 (.agg #[h]) "Kind").run Tryz.prog w = .ok (279, h) w := by kernel_rfl
theorem methodElem (h : Value) (w : World) : (Go.method 503 235 (.agg #[h]) "Elem").run Tryz.prog w = .ok (299, .agg #[h]) w := by kernel_rfl
theorem methodImplements (h : Value) (w : World) : (Go.method 503 235 (.agg #[h]) "Implements").run Tryz.prog w = .ok (300, .agg #[h]) w := by kernel_rfl
theorem methodAssignableTo (h : Value) (w : World) : (Go.method 503 235 (.agg #[h]) "AssignableTo").run Tryz.prog w = .ok (297, .agg #[h]) w := by kernel_rfl
theorem kindPw (w : World) : ((ReflectliteType.abiMethod fun t => (fun a : Nat => Value.int IntKind.u8 (a : Int)) <$> Rtype.kind t) #[.pointer (some ⟨7, 109, none⟩)]).run Tryz.prog w = .ok (.int .u8 22) w := by kernel_rfl
theorem kindW (w : World) : ((ReflectliteType.abiMethod fun t => (fun a : Nat => Value.int IntKind.u8 (a : Int)) <$> Rtype.kind t) #[.pointer (some ⟨7, 107, none⟩)]).run Tryz.prog w = .ok (.int .u8 25) w := by kernel_rfl
theorem elemP (w : World) : (ReflectliteType.method ReflectliteType.elem #[.agg #[.pointer (some ⟨7, 109, none⟩)]]).run Tryz.prog w = .ok (.iface 235 (.agg #[.pointer (some ⟨7, 107, none⟩)])) w := by kernel_rfl
theorem implementsW (w : World) : (ReflectliteType.relation "Implements" ReflectliteType.implements_ #[.agg #[.pointer (some ⟨7, 107, none⟩)], .iface 235 (.agg #[.pointer (some ⟨7, 103, none⟩)])]).run Tryz.prog w = .ok (.bool true) w := by kernel_rfl
theorem typeOfW (v : Value) (w : World) : (ReflectliteType.typeOf #[.iface 107 v]).run Tryz.prog w = .ok (.iface 235 (.agg #[.pointer (some ⟨7, 107, none⟩)])) w := by kernel_rfl
theorem typeOfI (v : Value) (w : World) : (ReflectliteType.typeOf #[.iface 178 v]).run Tryz.prog w = .ok (.iface 235 (.agg #[.pointer (some ⟨7, 178, none⟩)])) w := by kernel_rfl
theorem assignableW (w : World) : (ReflectliteType.relation "AssignableTo" ReflectliteType.assignableTo #[.agg #[.pointer (some ⟨7, 107, none⟩)], .iface 235 (.agg #[.pointer (some ⟨7, 107, none⟩)])]).run Tryz.prog w = .ok (.bool true) w := by kernel_rfl
theorem assignableI (w : World) : (ReflectliteType.relation "AssignableTo" ReflectliteType.assignableTo #[.agg #[.pointer (some ⟨7, 178, none⟩)], .iface 235 (.agg #[.pointer (some ⟨7, 107, none⟩)])]).run Tryz.prog w = .ok (.bool false) w := by kernel_rfl
theorem valueOfW (k : Int) (w : World) : (ReflectliteValue.unpack (.iface 107 (.agg #[.int .i64 k]))).run Tryz.prog w
    = .ok (.agg #[.pointer (some ⟨7, 107, none⟩), .pointer (some ⟨w.heap.size, 0, none⟩), .int .u64 153]) (w.alloc (.cells #[.int .i64 k] 107)) := by kernel_rfl
theorem noAs (v : Value) (w : World) : (Instr.typeAssert (.iface 178 v) 103 240 true).run Tryz.prog w = .ok (.tuple #[.nilIface, .bool false]) w := run_typeAssert_lacksB Tryz.underlying240 (by kernel_rfl) (by kernel_rfl) v 103 w
theorem isUnwrap (v : Value) (w : World) : (Instr.typeAssert (.iface 178 v) 103 243 true).run Tryz.prog w = .ok (.tuple #[.iface 178 v, .bool true]) w := by kernel_rfl
theorem methodUnwrap (v : Value) (w : World) : (Go.method 503 178 v "Unwrap").run Tryz.prog w = .ok (289, v) w := by kernel_rfl
theorem partsP (a : Addr) (w : World) : (ReflectliteValue.parts (.agg #[.pointer (some ⟨7, 109, none⟩), .pointer (some a), .int .u64 150])).run Tryz.prog w = .ok (some (109, a, 150)) w := by kernel_rfl
theorem elemOfP (w : World) : (Rtype.elem? 109).run Tryz.prog w = .ok (some 107) w := by kernel_rfl
theorem mkW (p : Addr) (w : World) : (ReflectliteValue.mk 107 p ReflectliteValue.flagAddr).run Tryz.prog w = .ok (.agg #[.pointer (some ⟨7, 107, none⟩), .pointer (some p), .int .u64 409]) w := by kernel_rfl
theorem partsWa (a : Addr) (w : World) : (ReflectliteValue.parts (.agg #[.pointer (some ⟨7, 107, none⟩), .pointer (some a), .int .u64 409])).run Tryz.prog w = .ok (some (107, a, 409)) w := by kernel_rfl
theorem partsW (a : Addr) (w : World) : (ReflectliteValue.parts (.agg #[.pointer (some ⟨7, 107, none⟩), .pointer (some a), .int .u64 153])).run Tryz.prog w = .ok (some (107, a, 153)) w := by kernel_rfl
theorem directW (w : World) : (Rtype.directlyAssignable 107 107).run Tryz.prog w = .ok true w := by kernel_rfl
theorem sizeW (w : World) : (sizeOf 107).run Tryz.prog w = .ok 1 w := by kernel_rfl
end Go.Proofs.YtlobegpjenabaaaGreatDoor
