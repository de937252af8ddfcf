/- errors.As at a wrong: the model's entries that read or write memory. -/
import Derived.Test.YtlobegpjenabaaaGreatDoorQMacAs
namespace Go.Proofs.YtlobegpjenabaaaGreatDoor
open Go.RowKit Go.Extern.Stop Go.Stop Go.Extern
set_option linter.unusedSimpArgs false
set_option linter.unusedVariables false

theorem isNilP (a p : Addr) (W : World) (ha : W.cell? a = some (.pointer (some p))) :
    (ReflectliteValue.method (ReflectliteValue.valueError "reflectlite.Value.IsNil" 0) ReflectliteValue.isNil #[.agg #[.pointer (some ⟨7, 109, none⟩), .pointer (some a), .int .u64 150]]).run Tryz.prog W = .ok (.bool false) W := by
  change Sem.run Tryz.prog (bind (ReflectliteValue.parts (.agg #[.pointer (some ⟨7, 109, none⟩), .pointer (some a), .int .u64 150])) _) W = _
  simp only [Sem.run_bind, partsP, Result.andThen]
  simp [ReflectliteValue.isNil, loadVar, isAgg, underlying, Tryz.underlying109, ha, Result.andThen]
theorem elemVP (a p : Addr) (W : World) (ha : W.cell? a = some (.pointer (some p))) :
    (ReflectliteValue.method (ReflectliteValue.valueError "reflectlite.Value.Elem" 0) ReflectliteValue.elem #[.agg #[.pointer (some ⟨7, 109, none⟩), .pointer (some a), .int .u64 150]]).run Tryz.prog W
      = .ok (.agg #[.pointer (some ⟨7, 107, none⟩), .pointer (some p), .int .u64 409]) W := by
  change Sem.run Tryz.prog (bind (ReflectliteValue.parts (.agg #[.pointer (some ⟨7, 109, none⟩), .pointer (some a), .int .u64 150])) _) W = _
  simp only [Sem.run_bind, partsP, Result.andThen]
  simp [ReflectliteValue.elem, loadVar, isAgg, underlying, Tryz.underlying109, ha, Result.andThen, elemOfP, mkW]
theorem setW (ta b : Addr) (k : Int) (old : Value) (W : World) (hb : W.cell? b = some (.int .i64 k)) (ht : W.cell? ta = some old) (hf : W.frozen? ta = false) :
    (ReflectliteValue.set #[.agg #[.pointer (some ⟨7, 107, none⟩), .pointer (some ta), .int .u64 409], .agg #[.pointer (some ⟨7, 107, none⟩), .pointer (some b), .int .u64 153]]).run Tryz.prog W
      = .ok (.tuple #[]) (W.setCell ta (.int .i64 k)) := by
  change Sem.run Tryz.prog (bind (ReflectliteValue.parts (.agg #[.pointer (some ⟨7, 107, none⟩), .pointer (some ta), .int .u64 409])) (fun _ => bind (ReflectliteValue.parts (.agg #[.pointer (some ⟨7, 107, none⟩), .pointer (some b), .int .u64 153])) _)) W = _
  simp only [Sem.run_bind, partsWa, partsW, Result.andThen]
  simp [ReflectliteValue.flagAddr, loadVar, isAgg, underlying, Tryz.underlying107, hb, Result.andThen, directW, sizeW, storeVar, Value.cells, storeCells, Addr.add]
  have hl : Sem.run Tryz.prog (loadCells b 1) W = .ok #[.int .i64 k] W := by
    have := run_loadCells_list (P := Tryz.prog) W b [.int .i64 k] (by intro j v hv; cases j <;> simp at hv; subst hv; simpa [Addr.add] using hb)
    simpa using this
  rw [hl]
  simp [storeCells, Addr.add]
  rw [run_store Tryz.prog W ta _ _ (by rfl)]
  simp [ht, hf]
end Go.Proofs.YtlobegpjenabaaaGreatDoor
