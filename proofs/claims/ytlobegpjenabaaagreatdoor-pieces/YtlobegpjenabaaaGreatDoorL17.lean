/- Values of a running program, and how they are told: full, add. -/
import Derived.Test.YtlobegpjenabaaaGreatDoorL16
import Derived.Lib.AppendStr
import Derived.Shelf.Strconv.AppendIntPublic10
import Derived.Shelf.Small.Strs
import Derived.Shelf.Strconv.Itoa0
import Derived.Shelf.Strconv.Itoa1
import Derived.Shelf.LaysM
import Derived.Shelf.Strconv.Itoa2
import Derived.Shelf.Strconv.ParseIntEmpty
import Derived.Shelf.Strconv.Clone
import Derived.Shelf.Strconv.SyntaxError
import Derived.Shelf.LaysC
import Derived.Shelf.Strconv.ToError
import Derived.Shelf.Strconv.Lower
import Derived.Shelf.Strconv.ParseUint10
import Derived.Shelf.Strconv.ParseUint10Empty
import Derived.Shelf.Strconv.ParseUint10Any
import Derived.Shelf.Strconv.ParseInt10
import Derived.Shelf.Strconv.RangeError
import Derived.Shelf.Strconv.ToErrorRange
import Derived.Shelf.Strconv.ParseUintEmpty
import Derived.Shelf.Strconv.ParseUint10b64
import Derived.Shelf.Strconv.ParseUint10b32
import Derived.Shelf.Strconv.ParseUint10b16
import Derived.Shelf.Strconv.ParseUint10b8
import Derived.Shelf.Strconv.ParseUint10At
import Derived.Shelf.Strconv.ParseInt10At64
import Derived.Shelf.Strconv.ParseInt10At32
import Derived.Shelf.Strconv.ParseInt10At16
import Derived.Shelf.Strconv.ParseInt10At8
import Derived.Shelf.Strconv.ParseInt10All
import Derived.Shelf.Strconv.ParseIntPublic10
import Derived.Shelf.Strconv.ErrVarParseInt
import Derived.Shelf.Strings.Search1
import Derived.Shelf.Strings.Search2
import Derived.Shelf.Strings.Search3
import Derived.Shelf.Strings.Shaped
import Derived.Shelf.Strconv.AppendUint10
import Derived.Shelf.Strconv.AppendInt10
import Derived.Shelf.Strings.Prefix
import Derived.Shelf.Slices.Turned
import Derived.Ground.Names2Prog
import Derived.Shelf.Slices.Clone
import Derived.Test.YtlobegpjenabaaaGreatDoorProg
import Derived.Lib.ItoaLen
namespace Go.Proofs.YtlobegpjenabaaaGreatDoor
open Go.RowKit
set_option linter.unusedSimpArgs false
set_option linter.unusedVariables false

/-- A value. Pairs and procedures have numbers. -/
inductive V where
  | int (k : Int)
  | bool (b : Bool)
  | sym (s : List UInt8)
  | empty
  | nothing
  | pair (id : Nat) (a b : V)
  | proc (id : Nat)
/-- What is no pair, told. -/
def toldA : V → List UInt8
  | .int k => Lib.itoa k
  | .bool true => [35, 116]
  | .bool false => [35, 102]
  | .sym s => s
  | .empty => [40, 41]
  | .nothing => [35, 110]
  | .pair _ _ _ => []
  | .proc _ => [35, 112]
/-- A value told (or, true: what stands behind the first of a pair). -/
def toldB : Bool → V → List UInt8
  | false, .pair _ a b => 40 :: (toldB false a ++ toldB true b)
  | true, .pair _ a b => 32 :: (toldB false a ++ toldB true b)
  | true, .empty => [41]
  | true, v => [32, 46, 32] ++ toldA v ++ [41]
  | false, v => toldA v
def toldS (v : V) : List UInt8 := toldB false v
/-- A value in memory: the pairs lie below B, where m says. -/
def VR (w : World) (B : Nat) (m : Nat → Nat) : V → Value → Prop
  | .int k, v => v = .iface 130 (.int .i64 k) ∧ -9223372036854775808 ≤ k ∧ k ≤ 9223372036854775807
  | .bool b, v => v = .iface 131 (.bool b)
  | .sym s, v => v = .iface 134 (.string ⟨s.toArray⟩) ∧ s.length ≤ 8000
  | .empty, v => v = .iface 207 (.agg #[])
  | .nothing, v => v = .iface 259 (.agg #[])
  | .pair id a b, v => v = .iface 136 (.pointer (some ⟨m id, 0, none⟩)) ∧ m id < B ∧ ∃ x y, w.heap[m id]? = some (Obj.cells #[x, y] 205 (0, 0)) ∧ VR w B m a x ∧ VR w B m b y
  | .proc id, v => v = .iface 216 (.pointer (some ⟨m id, 0, none⟩)) ∧ m id < B
theorem VR.below {w w' : World} {B : Nat} {m : Nat → Nat} (hb : Below B w w') : ∀ (v : V) (x : Value), VR w B m v x → VR w' B m v x
  | .int k, v, h => h
  | .bool b, v, h => h
  | .sym s, v, h => h
  | .empty, v, h => h
  | .nothing, v, h => h
  | .pair id a b, v, ⟨h1, h2, x, y, h3, h4, h5⟩ => ⟨h1, h2, x, y, by rw [hb.block _ h2]; exact h3, VR.below hb a x h4, VR.below hb b y h5⟩
  | .proc id, v, h => h
theorem VR.form {w : World} {B : Nat} {m : Nat → Nat} : ∀ (v : V) (x : Value), VR w B m v x → ∃ t y, x = .iface t y
  | .int k, v, h => ⟨_, _, h.1⟩
  | .bool b, v, h => ⟨_, _, h⟩
  | .sym s, v, h => ⟨_, _, h.1⟩
  | .empty, v, h => ⟨_, _, h⟩
  | .nothing, v, h => ⟨_, _, h⟩
  | .pair id a b, v, h => ⟨_, _, h.1⟩
  | .proc id, v, h => ⟨_, _, h.1⟩

/-- A teller in block T, with the text t. -/
def Tl (w : World) (B T : Nat) (t : List UInt8) : Prop := B ≤ T ∧ ∃ u, w.heap[T]? = some (Obj.cells #[u] 335 (0, 0)) ∧ w.ownsRow B 5 1 u t.length (Lib.byteCells t)
def TlPost (w : World) (B T : Nat) (t : List UInt8) (e : Ending) (w' : World) : Prop := e = .returned (.tuple #[]) ∧ Tl w' B T t ∧ Below B w w'
theorem infoU8 : (Tryz.prog.info? 5).map (fun i => (i.zero, i.size, i.bytes)) = some (some (.int .u8 0), 1, 1) := by kernel_rfl

set_option maxHeartbeats 1000000 in
theorem full_go {w : World} {B T : Nat} {t : List UInt8} (h : Tl w B T t) (hl : t.length ≤ 1000000) :
    Calls Tryz.prog 233 #[.pointer (some ⟨T, 0, none⟩)] w fun e w' => e = .returned (.bool (decide (100 ≤ t.length))) ∧ w' = w := by
  obtain ⟨hB, u, hS, hr⟩ := h
  obtain ⟨a, cap, rfl, _, _, _⟩ := ownsRow_slice hr
  have c0 := cell_of_block hS 0
  simp only [List.getElem?_toArray, List.getElem?_cons_zero] at c0
  clear hr
  go_enter Tryz.func233, Tryz.ntmps233
  go_wp2
  go_ret
  refine ⟨ret_bool ?_, rfl⟩
  simp
  omega

set_option maxRecDepth 100000 in
set_option maxHeartbeats 2000000 in
theorem add_go {w : World} {B T : Nat} {t : List UInt8} (s : ByteArray) (h : Tl w B T t) (hl : t.length ≤ 1000000) (hs : s.size ≤ 1000000) :
    Calls Tryz.prog 236 #[.pointer (some ⟨T, 0, none⟩), .string s] w (TlPost w B T (t ++ s.data.toList)) := by
  obtain ⟨hB, u, hS, hr⟩ := h
  have hBw : B ≤ w.heap.size := Nat.le_of_lt (Nat.lt_of_le_of_lt hB (lt_of_some hS))
  have HR := hide hr
  have HS := hide hS
  obtain ⟨i0, hi, hz0, hz1, hz2⟩ := info_parts infoU8
  have HI := hide (And.intro hi (And.intro hz0 (And.intro hz1 hz2)))
  obtain ⟨a, cap, rfl, _, _, _⟩ := ownsRow_slice hr
  have c0 := cell_of_block hS 0
  simp only [List.getElem?_toArray, List.getElem?_cons_zero] at c0
  have hTl := lt_of_some hS
  clear hr hS hi hz0 hz1 hz2
  go_enter Tryz.func236, Tryz.ntmps236
  go_wp2_with (at_builtin; refine Lib.wpList_append_own_string _ rfl (.tmp 8) (.tmp 9) 72 9 rfl B 5 i0 Tryz.underlying72 Tryz.underlying9 HI.out.1 HI.out.2.1 HI.out.2.2.1 HI.out.2.2.2 _ t.length (Lib.byteCells t) rfl HR.out s rfl (by unfold maxLen; omega) (by omega) hBw ?_)
  intro v1 w1 hown1 hgrow1 hnil1
  have HU := hide (Upd.grown (Upd.refl (fun k => (Value.slice a t.length cap).ownBlock = some k) w) hgrow1 (fun k hk _ => hk))
  have hS1 := keep_row HR.out HU.out (T' := 335) (by decide) _ _ HS.out
  have d0 := cell_of_block hS1 0
  simp only [List.getElem?_toArray, List.getElem?_cons_zero] at d0
  have f0 := frozen_of_block hS1 0
  have hlen : (t ++ s.data.toList).length = t.length + s.size := by rw [List.length_append, lenB]
  have hcel : Lib.byteCells (t ++ s.data.toList) = Lib.byteCells t ++ Lib.strCells s := by unfold Lib.byteCells Lib.strCells; rw [List.map_append]
  have HF := hide (show TlPost w B T (t ++ s.data.toList) (.returned (.tuple #[])) (w1.setCell ⟨T, 0, none⟩ v1) from
    ⟨rfl, ⟨hB, v1, heap_setCell_same hS1, by rw [hlen, hcel]; exact ownsRow_keep (keep_set hS1 (by decide)) hown1⟩, (HU.out.below hBw (by intro k hk; exact (ownsRow_ge HR.out hk).1)).setCell hB _⟩)
  obtain ⟨a1, cap1, rfl, _, _, _⟩ := ownsRow_slice hown1
  clear hown1 hgrow1 hnil1 hS1 hlen hcel
  go_wp2
  refine bodyPost_ret (results_none rfl _ _ _) rfl ?_
  exact HF.out
end Go.Proofs.YtlobegpjenabaaaGreatDoor

/-
  DERIVED: THE SHELF's CONTRACTS AT THIS DUMP, IN PLAIN WORDS (tools/lay-plain.mjs out of 'TrimShelf2.lean', which tools/lay-shelf.mjs wrote): THE SAME DECLARATIONS UNDER THE SAME NAMES: 'import', 'namespace', 'open', 'def', 'theorem' AND NOTHING ELSE: no command of the shelf's: FOR A HAND-IN. Each laying: the table of numbers ('.._ren') and one theorem, a field a fact of the dump's own or the kernel's comparison; each contract: ONE APPLICATION.
-/
namespace Go.Proofs
open Go.Shelf
def Tryz.laysM176_ren : Go.Shelf.Ren := ⟨fun | 176 => 234 | 249 => 246 | 288 => 251 | 283 => 254 | 284 => 255 | 285 => 256 | 286 => 257 | 129 => 259 | 317 => 258 | 318 => 260 | 319 => 261 | 320 => 262 | 337 => 263 | 338 => 264 | n => n, fun | 37 => 72 | 2 => 2 | 3 => 3 | 53 => 338 | 4 => 4 | 9 => 9 | 171 => 365 | 0 => 0 | 173 => 368 | 212 => 371 | 51 => 361 | 5 => 5 | 20 => 20 | 213 => 372 | 46 => 341 | 232 => 375 | 233 => 376 | n => n, fun | 17 => 4 | 18 => 5 | 19 => 6 | n => n⟩
theorem Tryz.laysM176 : Go.Proofs.LaysM.n176 Tryz.prog Tryz.laysM176_ren := {
  mixed := by kernel_rfl
  f129 := Tryz.func259.trans (congrArg some (by kernel_rfl))
  f176 := Tryz.func234.trans (congrArg some (by kernel_rfl))
  f249 := Tryz.func246.trans (congrArg some (by kernel_rfl))
  f283 := Tryz.func254.trans (congrArg some (by kernel_rfl))
  f284 := Tryz.func255.trans (congrArg some (by kernel_rfl))
  f285 := Tryz.func256.trans (congrArg some (by kernel_rfl))
  f286 := Tryz.func257.trans (congrArg some (by kernel_rfl))
  f288 := Tryz.func251.trans (congrArg some (by kernel_rfl))
  f317 := Tryz.func258.trans (congrArg some (by kernel_rfl))
  f318 := Tryz.func260.trans (congrArg some (by kernel_rfl))
  f319 := Tryz.func261.trans (congrArg some (by kernel_rfl))
  f320 := Tryz.func262.trans (congrArg some (by kernel_rfl))
  f337 := Tryz.func263.trans (congrArg some (by kernel_rfl))
  f338 := Tryz.func264.trans (congrArg some (by kernel_rfl))
  t0 := Tryz.underlying0
  a0 := Tryz.isAgg0
  z0 := Tryz.sizeOf0
  v0 := Tryz.zeroValue0
  t2 := Tryz.underlying2
  a2 := Tryz.isAgg2
  z2 := Tryz.sizeOf2
  v2 := Tryz.zeroValue2
  t3 := Tryz.underlying3
  a3 := Tryz.isAgg3
  z3 := Tryz.sizeOf3
  v3 := Tryz.zeroValue3
  t4 := Tryz.underlying4
  a4 := Tryz.isAgg4
  z4 := Tryz.sizeOf4
  v4 := Tryz.zeroValue4
  t5 := Tryz.underlying5
  a5 := Tryz.isAgg5
  z5 := Tryz.sizeOf5
  v5 := Tryz.zeroValue5
  t9 := Tryz.underlying9
  a9 := Tryz.isAgg9
  z9 := Tryz.sizeOf9
  v9 := Tryz.zeroValue9
  t20 := Tryz.underlying20
  a20 := Tryz.isAgg20
  z20 := Tryz.sizeOf20
  v20 := Tryz.zeroValue20
  t37 := Tryz.underlying72
  a37 := Tryz.isAgg72
  z37 := Tryz.sizeOf72
  v37 := Tryz.zeroValue72
  t46 := Tryz.underlying341
  a46 := Tryz.isAgg341
  z46 := Tryz.sizeOf341
  v46 := Tryz.zeroValue341
  t51 := Tryz.underlying361
  a51 := Tryz.isAgg361
  z51 := Tryz.sizeOf361
  v51 := Tryz.zeroValue361
  t53 := Tryz.underlying338
  a53 := Tryz.isAgg338
  z53 := Tryz.sizeOf338
  v53 := Tryz.zeroValue338
  t171 := Tryz.underlying365
  a171 := Tryz.isAgg365
  z171 := Tryz.sizeOf365
  v171 := Tryz.zeroValue365
  t173 := Tryz.underlying368
  a173 := Tryz.isAgg368
  z173 := Tryz.sizeOf368
  v173 := Tryz.zeroValue368
  t212 := Tryz.underlying371
  a212 := Tryz.isAgg371
  z212 := Tryz.sizeOf371
  v212 := Tryz.zeroValue371
  t213 := Tryz.underlying372
  a213 := Tryz.isAgg372
  z213 := Tryz.sizeOf372
  t232 := Tryz.underlying375
  a232 := Tryz.isAgg375
  z232 := Tryz.sizeOf375
  v232 := Tryz.zeroValue375
  t233 := Tryz.underlying376
  a233 := Tryz.isAgg376
  z233 := Tryz.sizeOf376
  v233 := Tryz.zeroValue376
  g17 := by kernel_rfl
  g18 := by kernel_rfl
  g19 := by kernel_rfl
  i0 := by kernel_rfl
  i2 := by kernel_rfl
  i3 := by kernel_rfl
  i4 := by kernel_rfl
  i5 := by kernel_rfl
  i9 := by kernel_rfl
  i20 := by kernel_rfl
  i37 := by kernel_rfl
  i46 := by kernel_rfl
  i51 := by kernel_rfl
  i53 := by kernel_rfl
  i171 := by kernel_rfl
  i173 := by kernel_rfl
  i212 := by kernel_rfl
  i232 := by kernel_rfl
  i233 := by kernel_rfl
  m17 := by kernel_rfl
  m18 := by kernel_rfl
  m19 := by kernel_rfl }
open Go.RowKit Go.Sort Go.Lib in
/-- strconv.AppendInt: "AppendInt appends the string form of the integer i, as generated by FormatInt, to dst and returns the extended buffer.": AT BASE 10: WHAT COMES BACK OWNS dst's CELLS AND, BEHIND THEM, i's DECIMAL NUMERAL ('Lib.itoa i': at most 20 bytes), for every int64. Below the call's own blocks nothing has turned. (LAID: no walk: one application.) -/
theorem Tryz.strconv_AppendInt_10 (B n : Nat) (i : Int) (h0 : -9223372036854775808 ≤ i) (h1 : i ≤ 9223372036854775807) (sv : Value) (xs : List Value) (w : World) (hown : w.ownsRow B 5 1 sv n xs) (hBw : B ≤ w.heap.size) (hlim : n + 21 ≤ 140737488355328) (htab : Lib.TabBelow Tryz.prog B w "internal/strconv.uint64pow10" .u64 Lib.pow10Tab) :
    Calls Tryz.prog 234 #[sv, .int .i64 i, .int .i64 10] w fun e w' => ∃ v', e = .returned v' ∧ w'.ownsRow B 5 1 v' (n + (Lib.itoa i).length) (xs ++ Lib.byteCells (Lib.itoa i)) ∧ Below B w w' ∧ Lib.OthersKept 5 none w w' := Any.strconv_AppendInt_10 Tryz.laysM176 B n i h0 h1 sv xs w hown hBw hlim htab
def Tryz.lays108_ren : Go.Shelf.Ren := ⟨fun | 108 => 177 | n => n, fun | 28 => 30 | 3 => 3 | 0 => 0 | 4 => 4 | n => n, fun | n => n⟩
theorem Tryz.lays108 : Go.Proofs.Lays.n108 Tryz.prog Tryz.lays108_ren := {
  mixed := by kernel_rfl
  f108 := Tryz.func177.trans (congrArg some (by kernel_rfl))
  t0 := Tryz.underlying0
  a0 := Tryz.isAgg0
  z0 := Tryz.sizeOf0
  v0 := Tryz.zeroValue0
  t3 := Tryz.underlying3
  a3 := Tryz.isAgg3
  z3 := Tryz.sizeOf3
  v3 := Tryz.zeroValue3
  t4 := Tryz.underlying4
  a4 := Tryz.isAgg4
  z4 := Tryz.sizeOf4
  v4 := Tryz.zeroValue4
  t28 := Tryz.underlying30
  a28 := Tryz.isAgg30
  z28 := Tryz.sizeOf30
  v28 := Tryz.zeroValue30 }
open Go.Lib in
/-- slices.Index at []int: "Index returns the index of the first occurrence of v in s, or -1 if not present.": IT RETURNS 'Lib.idxOf (the elements) v'; the world is as it was. 'zs': what the cells behind the slice's address hold (its spare capacity too, if you have it); 'zs.take n': its elements. (LAID: no walk: one application.) -/
theorem Tryz.slices_Index_int (b off n c : Nat) (zs : List Int) (x : Int) (w : World) (hz : n ≤ zs.length) (hbig : n ≤ 9223372036854775807) (hc : ∀ j, j < zs.length → w.cell? ⟨b, off + j, none⟩ = some (.int .i64 (zs.getD j 0))) :
    Calls Tryz.prog 177 #[.slice (some ⟨b, off, none⟩) n c, .int .i64 x] w fun e w' => e = .returned (.int .i64 (Lib.idxOf (zs.take n) x)) ∧ w' = w := Any.slices_Index_int Tryz.lays108 b off n c zs x w hz hbig hc
open Go.Lib in
/-- The same at a slice of length 0, a nil one too: no cell is known, none is asked for. (LAID: no walk: one application.) -/
theorem Tryz.slices_Index_int_empty (a : Option Addr) (c : Nat) (x : Int) (w : World) :
    Calls Tryz.prog 177 #[.slice a 0 c, .int .i64 x] w fun e w' => e = .returned (.int .i64 (Lib.idxOf [] x)) ∧ w' = w := Any.slices_Index_int_empty Tryz.lays108 a c x w
def Tryz.lays109_ren : Go.Shelf.Ren := ⟨fun | 109 => 101 | n => n, fun | 31 => 26 | 9 => 9 | 3 => 3 | 0 => 0 | 4 => 4 | n => n, fun | n => n⟩
theorem Tryz.lays109 : Go.Proofs.Lays.n109 Tryz.prog Tryz.lays109_ren := {
  mixed := by kernel_rfl
  f109 := Tryz.func101.trans (congrArg some (by kernel_rfl))
  t0 := Tryz.underlying0
  a0 := Tryz.isAgg0
  z0 := Tryz.sizeOf0
  v0 := Tryz.zeroValue0
  t3 := Tryz.underlying3
  a3 := Tryz.isAgg3
  z3 := Tryz.sizeOf3
  v3 := Tryz.zeroValue3
  t4 := Tryz.underlying4
  a4 := Tryz.isAgg4
  z4 := Tryz.sizeOf4
  v4 := Tryz.zeroValue4
  t9 := Tryz.underlying9
  a9 := Tryz.isAgg9
  z9 := Tryz.sizeOf9
  v9 := Tryz.zeroValue9
  t31 := Tryz.underlying26
  a31 := Tryz.isAgg26
  z31 := Tryz.sizeOf26
  v31 := Tryz.zeroValue26 }
open Go.Lib in
/-- slices.Index at []string: "Index returns the index of the first occurrence of v in s, or -1 if not present.": IT RETURNS 'Lib.idxOfS (the elements) v'; the world is as it was. 'zs': what the cells behind the slice's address hold (its spare capacity too, if you have it); 'zs.take n': its elements. (LAID: no walk: one application.) -/
theorem Tryz.slices_Index_string (b off n c : Nat) (zs : List ByteArray) (x : ByteArray) (w : World) (hz : n ≤ zs.length) (hbig : n ≤ 9223372036854775807) (hc : ∀ j, j < zs.length → w.cell? ⟨b, off + j, none⟩ = some (.string (zs.getD j ByteArray.empty))) :
    Calls Tryz.prog 101 #[.slice (some ⟨b, off, none⟩) n c, .string x] w fun e w' => e = .returned (.int .i64 (Lib.idxOfS (zs.take n) x)) ∧ w' = w := Any.slices_Index_string Tryz.lays109 b off n c zs x w hz hbig hc
open Go.Lib in
/-- The same at a slice of length 0, a nil one too: no cell is known, none is asked for. (LAID: no walk: one application.) -/
theorem Tryz.slices_Index_string_empty (a : Option Addr) (c : Nat) (x : ByteArray) (w : World) :
    Calls Tryz.prog 101 #[.slice a 0 c, .string x] w fun e w' => e = .returned (.int .i64 (Lib.idxOfS [] x)) ∧ w' = w := Any.slices_Index_string_empty Tryz.lays109 a c x w
def Tryz.laysNm216_ren : Go.Shelf.Ren := ⟨fun | 16 => 103 | n => n, fun | 24 => 26 | 9 => 9 | 4 => 4 | n => n, fun | n => n⟩
theorem Tryz.laysNm216 : Go.Proofs.Lays2.n16 Tryz.prog Tryz.laysNm216_ren := {
  mixed := by kernel_rfl
  f16 := Tryz.func103.trans (congrArg some (by kernel_rfl))
  t4 := Tryz.underlying4
  a4 := Tryz.isAgg4
  z4 := Tryz.sizeOf4
  v4 := Tryz.zeroValue4
  t9 := Tryz.underlying9
  a9 := Tryz.isAgg9
  z9 := Tryz.sizeOf9
  v9 := Tryz.zeroValue9
  t24 := Tryz.underlying26
  a24 := Tryz.isAgg26
  z24 := Tryz.sizeOf26
  v24 := Tryz.zeroValue26
  i9 := by kernel_rfl }
open Go.RowKit Go.Lib in
/-- slices.Clone at []string: "Clone returns a copy of the slice. The elements are copied using assignment, so this is a shallow clone. The result may have additional unused capacity. The result preserves the nilness of s.": OF A SLICE THAT IS NOT nil IT RETURNS A SLICE THAT IS NOT nil, OF THE SAME ELEMENTS, IN MEMORY OF THE CALL's OWN: in the how-to's words (6f): 'w'.ownsRow B e 1 v' n cells': v' begins at the head of a row among the blocks from B on (B: the heap's size at the call), not frozen, whose first cells are the elements · 'Below B w w'': below B all is as it was. The capacity is whatever the run-time gives. 'zs': what the cells behind the slice's address hold; 'zs.take n': its elements. (LAID: no walk: one application.) -/
theorem Tryz.slices_Clone_string (b off n c : Nat) (zs : List ByteArray) (w : World) (hz : n ≤ zs.length) (hbig : n * 16 ≤ 140737488355328) (hc : ∀ j, j < zs.length → w.cell? ⟨b, off + j, none⟩ = some (.string (zs.getD j ByteArray.empty))) :
    Calls Tryz.prog 103 #[.slice (some ⟨b, off, none⟩) n c] w fun e w' => ∃ v', e = .returned v' ∧ w'.ownsRow w.heap.size 9 1 v' n ((zs.take n).map (Value.string)) ∧ v' ≠ .slice none 0 0 ∧ Below w.heap.size w w' := Any.slices_Clone_string Tryz.laysNm216 b off n c zs w hz hbig hc
open Go.RowKit Go.Lib in
/-- The same at nil: nil comes back; the world is as it was. (LAID: no walk: one application.) -/
theorem Tryz.slices_Clone_string_nil (n c : Nat) (w : World) :
    Calls Tryz.prog 103 #[.slice none n c] w fun e w' => e = .returned (.slice none 0 0) ∧ w' = w := Any.slices_Clone_string_nil Tryz.laysNm216 n c w
end Go.Proofs

/- value.Told: tell, pair. -/
namespace Go.Proofs.YtlobegpjenabaaaGreatDoor
open Go.RowKit
set_option linter.unusedSimpArgs false
set_option linter.unusedVariables false

/-- As far as it is told. -/
def Pre (t s : List UInt8) : Prop := t.take 100 = s.take 100 ∧ (t.length < 100 → t = s)
theorem Pre.refl (t : List UInt8) : Pre t t := ⟨rfl, fun _ => rfl⟩
theorem take_long (a x : List UInt8) (h : 100 ≤ a.length) : (a ++ x).take 100 = a.take 100 := by
  rw [List.take_append_of_le_length h]
theorem Pre.long {t s : List UInt8} (h : Pre t s) (hl : 100 ≤ t.length) : 100 ≤ s.length := by
  have := congrArg List.length h.1
  rw [List.length_take, List.length_take] at this
  omega
theorem Pre.full {t s : List UInt8} (h : Pre t s) (hl : 100 ≤ t.length) (x y : List UInt8) : Pre (t ++ x) (s ++ y) :=
  ⟨by rw [take_long t x hl, take_long s y (h.long hl)]; exact h.1, fun h' => by rw [List.length_append] at h'; omega⟩
theorem Pre.add {t s : List UInt8} (h : Pre t s) (x : List UInt8) : Pre (t ++ x) (s ++ x) := by
  rcases Nat.lt_or_ge t.length 100 with hl | hl
  · rw [h.2 hl]; exact Pre.refl _
  · exact h.full hl x x
theorem Pre.trans {t s r : List UInt8} (h : Pre t s) (k : Pre s r) : Pre t r := ⟨h.1.trans k.1, fun hl => by
  have := h.2 hl; subst this; exact k.2 hl⟩
def sizeV : V → Nat
  | .pair _ a b => sizeV a + sizeV b + 1
  | _ => 0
/-- The table of the library, wherever nothing below B has turned. -/
abbrev Tab (B : Nat) (w : World) : Prop := Lib.TabBelow Tryz.prog B w "internal/strconv.uint64pow10" .u64 Lib.pow10Tab
theorem Tab.below {B : Nat} {w w' : World} (h : Tab B w) (hb : Below B w w') : Tab B w' := fun w'' h'' => h w'' (hb.trans h'')
/-- What a call of tell comes to. -/
def TellPost (w : World) (B T : Nat) (t : List UInt8) (x : List UInt8) (e : Ending) (w' : World) : Prop :=
  e = .returned (.tuple #[]) ∧ (∃ t', Tl w' B T t' ∧ Pre t' (t ++ x) ∧ (100 ≤ t.length → t' = t) ∧ (t.length < 100 → t'.length ≤ 8200 - t.length)) ∧ Below B w w'
def TellC (N : Nat) : Prop := ∀ (v : V) (w : World) (x : Value) (B T : Nat) (m : Nat → Nat) (t : List UInt8), sizeV v ≤ N → VR w B m v x → Tl w B T t → t.length ≤ 9000 → Tab B w → Calls Tryz.prog 220 #[.pointer (some ⟨T, 0, none⟩), x] w (TellPost w B T t (toldS v))

theorem vi_Bool (v : Value) (w : World) : (Instr.typeAssert (.iface 131 v) 81 130 true).run Tryz.prog w = .ok (.tuple #[.int .i64 0, .bool false]) w := by kernel_rfl
theorem vi_Symbol (v : Value) (w : World) : (Instr.typeAssert (.iface 134 v) 81 130 true).run Tryz.prog w = .ok (.tuple #[.int .i64 0, .bool false]) w := by kernel_rfl
theorem vi_Empty (v : Value) (w : World) : (Instr.typeAssert (.iface 207 v) 81 130 true).run Tryz.prog w = .ok (.tuple #[.int .i64 0, .bool false]) w := by kernel_rfl
theorem vi_Nothing (v : Value) (w : World) : (Instr.typeAssert (.iface 259 v) 81 130 true).run Tryz.prog w = .ok (.tuple #[.int .i64 0, .bool false]) w := by kernel_rfl
theorem vi_Pair (v : Value) (w : World) : (Instr.typeAssert (.iface 136 v) 81 130 true).run Tryz.prog w = .ok (.tuple #[.int .i64 0, .bool false]) w := by kernel_rfl
theorem vi_Procedure (v : Value) (w : World) : (Instr.typeAssert (.iface 216 v) 81 130 true).run Tryz.prog w = .ok (.tuple #[.int .i64 0, .bool false]) w := by kernel_rfl
theorem vb_Symbol (v : Value) (w : World) : (Instr.typeAssert (.iface 134 v) 81 131 true).run Tryz.prog w = .ok (.tuple #[.bool false, .bool false]) w := by kernel_rfl
theorem vb_Empty (v : Value) (w : World) : (Instr.typeAssert (.iface 207 v) 81 131 true).run Tryz.prog w = .ok (.tuple #[.bool false, .bool false]) w := by kernel_rfl
theorem vb_Nothing (v : Value) (w : World) : (Instr.typeAssert (.iface 259 v) 81 131 true).run Tryz.prog w = .ok (.tuple #[.bool false, .bool false]) w := by kernel_rfl
theorem vb_Pair (v : Value) (w : World) : (Instr.typeAssert (.iface 136 v) 81 131 true).run Tryz.prog w = .ok (.tuple #[.bool false, .bool false]) w := by kernel_rfl
theorem vb_Procedure (v : Value) (w : World) : (Instr.typeAssert (.iface 216 v) 81 131 true).run Tryz.prog w = .ok (.tuple #[.bool false, .bool false]) w := by kernel_rfl
theorem vs_Empty (v : Value) (w : World) : (Instr.typeAssert (.iface 207 v) 81 134 true).run Tryz.prog w = .ok (.tuple #[.string ⟨#[]⟩, .bool false]) w := by kernel_rfl
theorem vs_Nothing (v : Value) (w : World) : (Instr.typeAssert (.iface 259 v) 81 134 true).run Tryz.prog w = .ok (.tuple #[.string ⟨#[]⟩, .bool false]) w := by kernel_rfl
theorem vs_Pair (v : Value) (w : World) : (Instr.typeAssert (.iface 136 v) 81 134 true).run Tryz.prog w = .ok (.tuple #[.string ⟨#[]⟩, .bool false]) w := by kernel_rfl
theorem vs_Procedure (v : Value) (w : World) : (Instr.typeAssert (.iface 216 v) 81 134 true).run Tryz.prog w = .ok (.tuple #[.string ⟨#[]⟩, .bool false]) w := by kernel_rfl
theorem ve_Nothing (v : Value) (w : World) : (Instr.typeAssert (.iface 259 v) 81 207 true).run Tryz.prog w = .ok (.tuple #[.agg #[], .bool false]) w := by kernel_rfl
theorem ve_Pair (v : Value) (w : World) : (Instr.typeAssert (.iface 136 v) 81 207 true).run Tryz.prog w = .ok (.tuple #[.agg #[], .bool false]) w := by kernel_rfl
theorem ve_Procedure (v : Value) (w : World) : (Instr.typeAssert (.iface 216 v) 81 207 true).run Tryz.prog w = .ok (.tuple #[.agg #[], .bool false]) w := by kernel_rfl
theorem vn_Pair (v : Value) (w : World) : (Instr.typeAssert (.iface 136 v) 81 259 true).run Tryz.prog w = .ok (.tuple #[.agg #[], .bool false]) w := by kernel_rfl
theorem vn_Procedure (v : Value) (w : World) : (Instr.typeAssert (.iface 216 v) 81 259 true).run Tryz.prog w = .ok (.tuple #[.agg #[], .bool false]) w := by kernel_rfl
theorem vp_Procedure (v : Value) (w : World) : (Instr.typeAssert (.iface 216 v) 81 136 true).run Tryz.prog w = .ok (.tuple #[.pointer none, .bool false]) w := by kernel_rfl
theorem is_Empty (w : World) : (Instr.typeAssert (.iface 207 (.agg #[])) 81 207 true).run Tryz.prog w = .ok (.tuple #[.agg #[], .bool true]) w := by kernel_rfl
theorem is_Nothing (w : World) : (Instr.typeAssert (.iface 259 (.agg #[])) 81 259 true).run Tryz.prog w = .ok (.tuple #[.agg #[], .bool true]) w := by kernel_rfl
theorem is_Proc (a : Option Addr) (w : World) : (Instr.typeAssert (.iface 216 (.pointer a)) 81 216 true).run Tryz.prog w = .ok (.tuple #[.pointer a, .bool true]) w := by kernel_rfl
theorem Tl.below {w w' : World} {B T : Nat} {t : List UInt8} (h : Tl w B T t) (hb : Below w.heap.size w w') : Tl w' B T t := by
  obtain ⟨h1, u, h2, h3⟩ := h
  exact ⟨h1, u, Keep.of_below hb _ _ h2, ownsRow_keep (Keep.of_below hb) h3⟩
theorem Tl.le {w : World} {B T : Nat} {t : List UInt8} (h : Tl w B T t) : B ≤ w.heap.size := by
  obtain ⟨h1, u, h2, h3⟩ := h
  exact Nat.le_of_lt (Nat.lt_of_le_of_lt h1 (lt_of_some h2))

set_option maxHeartbeats 1000000 in
/-- A teller that is full. -/
theorem tell_full (x y : List UInt8) (t : TypeId) (v : Value) (w : World) (B T : Nat) (h : Tl w B T x) (hl : x.length ≤ 9000) (h100 : 100 ≤ x.length) :
    Calls Tryz.prog 220 #[.pointer (some ⟨T, 0, none⟩), .iface t v] w (TellPost w B T x y) := by
  have HF := hide (full_go h (by omega))
  have HH := hide h
  have HL := hide h100
  clear h
  rw [decide_eq_true h100] at HF
  clear h100
  go_enter Tryz.func220, Tryz.ntmps220
  go_wp2_with fail
  refine HF.out.mono ?_
  rintro e w' ⟨rfl, rfl⟩
  go_wp2
  refine bodyPost_ret (results_none rfl _ _ _) rfl ?_
  have hp := (Pre.refl x).full HL.out [] y
  rw [List.append_nil] at hp
  exact ⟨rfl, ⟨x, HH.out, hp, fun _ => rfl, fun h => absurd h (by have := HL.out; omega)⟩, Below.refl _ _⟩

theorem tell_end {w w' : World} {B T : Nat} {t y : List UInt8} {e : Ending} (h : TlPost w B T (t ++ y) e w') (ht : t.length < 100) (hy : y.length ≤ 8000) : TellPost w B T t y e w' :=
  ⟨h.1, ⟨_, h.2.1, Pre.refl _, fun h => absurd h (by omega), fun _ => by rw [List.length_append]; omega⟩, h.2.2⟩


set_option maxHeartbeats 1000000 in
theorem tell_empty (x : List UInt8) (w : World) (B T : Nat) (h : Tl w B T x) (hl : x.length < 100) :
    Calls Tryz.prog 220 #[.pointer (some ⟨T, 0, none⟩), .iface 207 (.agg #[])] w (TellPost w B T x [40, 41]) := by
  have HF := hide (full_go h (by omega))
  have HA := hide (fun (W : World) (hb : Below w.heap.size w W) => add_go (w := W) ⟨#[40, 41]⟩ (h.below hb) (by omega) (by decide))
  have HB := hide h.le
  have HL := hide hl
  have h0 := vi_Empty
  have h1 := vb_Empty
  have h2 := vs_Empty
  have h3 := is_Empty
  rw [decide_eq_false (by omega)] at HF
  clear h hl
  go_enter Tryz.func220, Tryz.ntmps220
  go_wp2_with fail
  refine HF.out.mono ?_
  rintro e w' ⟨rfl, rfl⟩
  go_wp2_with fail
  refine (HA.out _ (by first | exact Below.refl _ _ | exact (Below.refl _ _).alloc (Nat.le_refl _) _ | exact ((Below.refl _ _).alloc (Nat.le_refl _) _).alloc (by simp) _)).mono ?_
  intro e w2 h2
  have HP := hide (show TellPost w' B T x [40, 41] e w2 from by
    have h3 := tell_end (t := x) (y := [40, 41]) h2 HL.out (by decide)
    exact ⟨h3.1, h3.2.1, (by first | exact h3.2.2 | exact (((Below.refl _ _).alloc (Nat.le_refl _) _).mono HB.out).trans h3.2.2 | exact ((((Below.refl _ _).alloc (Nat.le_refl _) _).alloc (by simp) _).mono HB.out).trans h3.2.2)⟩)
  obtain ⟨rfl, _, _⟩ := h2
  go_wp2
  refine bodyPost_ret (results_none rfl _ _ _) rfl ?_
  exact HP.out

set_option maxHeartbeats 1000000 in
theorem tell_nothing (x : List UInt8) (w : World) (B T : Nat) (h : Tl w B T x) (hl : x.length < 100) :
    Calls Tryz.prog 220 #[.pointer (some ⟨T, 0, none⟩), .iface 259 (.agg #[])] w (TellPost w B T x [35, 110]) := by
  have HF := hide (full_go h (by omega))
  have HA := hide (fun (W : World) (hb : Below w.heap.size w W) => add_go (w := W) ⟨#[35, 110]⟩ (h.below hb) (by omega) (by decide))
  have HB := hide h.le
  have HL := hide hl
  have h0 := vi_Nothing
  have h1 := vb_Nothing
  have h2 := vs_Nothing
  have h3 := ve_Nothing
  have h4 := is_Nothing
  rw [decide_eq_false (by omega)] at HF
  clear h hl
  go_enter Tryz.func220, Tryz.ntmps220
  go_wp2_with fail
  refine HF.out.mono ?_
  rintro e w' ⟨rfl, rfl⟩
  go_wp2_with fail
  refine (HA.out _ (by first | exact Below.refl _ _ | exact (Below.refl _ _).alloc (Nat.le_refl _) _ | exact ((Below.refl _ _).alloc (Nat.le_refl _) _).alloc (by simp) _)).mono ?_
  intro e w2 h2
  have HP := hide (show TellPost w' B T x [35, 110] e w2 from by
    have h3 := tell_end (t := x) (y := [35, 110]) h2 HL.out (by decide)
    exact ⟨h3.1, h3.2.1, (by first | exact h3.2.2 | exact (((Below.refl _ _).alloc (Nat.le_refl _) _).mono HB.out).trans h3.2.2 | exact ((((Below.refl _ _).alloc (Nat.le_refl _) _).alloc (by simp) _).mono HB.out).trans h3.2.2)⟩)
  obtain ⟨rfl, _, _⟩ := h2
  go_wp2
  refine bodyPost_ret (results_none rfl _ _ _) rfl ?_
  exact HP.out

set_option maxHeartbeats 1000000 in
theorem tell_proc (x : List UInt8) (w : World) (B T : Nat) (a : Option Addr) (h : Tl w B T x) (hl : x.length < 100) :
    Calls Tryz.prog 220 #[.pointer (some ⟨T, 0, none⟩), .iface 216 (.pointer a)] w (TellPost w B T x [35, 112]) := by
  have HF := hide (full_go h (by omega))
  have HA := hide (fun (W : World) (hb : Below w.heap.size w W) => add_go (w := W) ⟨#[35, 112]⟩ (h.below hb) (by omega) (by decide))
  have HB := hide h.le
  have HL := hide hl
  have h0 := vi_Procedure
  have h1 := vb_Procedure
  have h2 := vs_Procedure
  have h3 := ve_Procedure
  have h4 := vn_Procedure
  have h5 := vp_Procedure
  have h6 := is_Proc
  rw [decide_eq_false (by omega)] at HF
  clear h hl
  go_enter Tryz.func220, Tryz.ntmps220
  go_wp2_with fail
  refine HF.out.mono ?_
  rintro e w' ⟨rfl, rfl⟩
  go_wp2_with fail
  refine (HA.out _ (by first | exact Below.refl _ _ | exact (Below.refl _ _).alloc (Nat.le_refl _) _ | exact ((Below.refl _ _).alloc (Nat.le_refl _) _).alloc (by simp) _)).mono ?_
  intro e w2 h2
  have HP := hide (show TellPost w' B T x [35, 112] e w2 from by
    have h3 := tell_end (t := x) (y := [35, 112]) h2 HL.out (by decide)
    exact ⟨h3.1, h3.2.1, (by first | exact h3.2.2 | exact (((Below.refl _ _).alloc (Nat.le_refl _) _).mono HB.out).trans h3.2.2 | exact ((((Below.refl _ _).alloc (Nat.le_refl _) _).alloc (by simp) _).mono HB.out).trans h3.2.2)⟩)
  obtain ⟨rfl, _, _⟩ := h2
  go_wp2
  refine bodyPost_ret (results_none rfl _ _ _) rfl ?_
  exact HP.out

set_option maxHeartbeats 1000000 in
theorem tell_sym (x y : List UInt8) (w : World) (B T : Nat) (hy : y.length ≤ 8000) (h : Tl w B T x) (hl : x.length < 100) :
    Calls Tryz.prog 220 #[.pointer (some ⟨T, 0, none⟩), .iface 134 (.string ⟨y.toArray⟩)] w (TellPost w B T x y) := by
  have HF := hide (full_go h (by omega))
  have HA := hide (add_go (w := w) ⟨y.toArray⟩ h (by omega) (by simp [ByteArray.size]; omega))
  have HL := hide hl
  have h1 := vi_Symbol
  have h2 := vb_Symbol
  have h3 := as_sym
  rw [decide_eq_false (by omega)] at HF
  clear h hl
  go_enter Tryz.func220, Tryz.ntmps220
  go_wp2_with fail
  refine HF.out.mono ?_
  rintro e w' ⟨rfl, rfl⟩
  go_wp2_with fail
  refine HA.out.mono ?_
  intro e w2 h2
  have HP := hide (tell_end (t := x) (y := y) h2 HL.out hy)
  obtain ⟨rfl, _, _⟩ := h2
  go_wp2
  refine bodyPost_ret (results_none rfl _ _ _) rfl ?_
  exact HP.out

set_option maxHeartbeats 1000000 in
theorem tellBool_go (x : List UInt8) (b : Bool) (w : World) (B T : Nat) (h : Tl w B T x) (hl : x.length < 100) :
    Calls Tryz.prog 235 #[.pointer (some ⟨T, 0, none⟩), .bool b] w (TlPost w B T (x ++ toldA (.bool b))) := by
  cases b with
  | true =>
    have HA := hide (add_go (w := w) ⟨#[35, 116]⟩ h (by omega) (by decide))
    clear h
    go_enter Tryz.func235, Tryz.ntmps235
    go_wp2_with fail
    refine HA.out.mono ?_
    intro e w2 h2
    have HP := hide h2
    obtain ⟨rfl, _, _⟩ := h2
    go_wp2
    refine bodyPost_ret (results_none rfl _ _ _) rfl ?_
    exact HP.out
  | false =>
    have HA := hide (add_go (w := w) ⟨#[35, 102]⟩ h (by omega) (by decide))
    clear h
    go_enter Tryz.func235, Tryz.ntmps235
    go_wp2_with fail
    refine HA.out.mono ?_
    intro e w2 h2
    have HP := hide h2
    obtain ⟨rfl, _, _⟩ := h2
    go_wp2
    refine bodyPost_ret (results_none rfl _ _ _) rfl ?_
    exact HP.out

set_option maxHeartbeats 1000000 in
theorem tell_bool (x : List UInt8) (b : Bool) (w : World) (B T : Nat) (h : Tl w B T x) (hl : x.length < 100) :
    Calls Tryz.prog 220 #[.pointer (some ⟨T, 0, none⟩), .iface 131 (.bool b)] w (TellPost w B T x (toldA (.bool b))) := by
  have HF := hide (full_go h (by omega))
  have HA := hide (tellBool_go x b w B T h hl)
  have HL := hide hl
  have HT := hide (show (toldA (.bool b)).length ≤ 8000 from by cases b <;> decide)
  have h1 := vi_Bool
  have h2 := as_bool_of
  rw [decide_eq_false (by omega)] at HF
  clear h hl
  go_enter Tryz.func220, Tryz.ntmps220
  go_wp2_with fail
  refine HF.out.mono ?_
  rintro e w' ⟨rfl, rfl⟩
  go_wp2_with fail
  refine HA.out.mono ?_
  intro e w2 h2
  have HP := hide (tell_end h2 HL.out HT.out)
  obtain ⟨rfl, _, _⟩ := h2
  go_wp2
  refine bodyPost_ret (results_none rfl _ _ _) rfl ?_
  exact HP.out

set_option maxHeartbeats 2000000 in
theorem tell_int (x : List UInt8) (k : Int) (w : World) (B T : Nat) (h0 : -9223372036854775808 ≤ k) (h1 : k ≤ 9223372036854775807) (h : Tl w B T x) (hl : x.length < 100) (ht : Tab B w) :
    Calls Tryz.prog 220 #[.pointer (some ⟨T, 0, none⟩), .iface 130 (.int .i64 k)] w (TellPost w B T x (Lib.itoa k)) := by
  have HF := hide (full_go h (by omega))
  have hBw := h.le
  obtain ⟨hB, u, hS, hr⟩ := h
  have HA := hide (Tryz.strconv_AppendInt_10 B x.length k h0 h1 u (Lib.byteCells x) w hr hBw (by omega) ht)
  have HL := hide hl
  have HS := hide hS
  obtain ⟨a, cap, rfl, _, _, _⟩ := ownsRow_slice hr
  have c0 := cell_of_block hS 0
  simp only [List.getElem?_toArray, List.getElem?_cons_zero] at c0
  have h2 := as_int_of
  rw [decide_eq_false (by omega)] at HF
  clear hl hS hr ht
  go_enter Tryz.func220, Tryz.ntmps220
  go_wp2_with fail
  refine HF.out.mono ?_
  rintro e w' ⟨rfl, rfl⟩
  go_wp2_with fail
  refine HA.out.mono ?_
  rintro e w2 ⟨v2, rfl, hown2, hb2, hok2⟩
  have hS2 := hok2 T _ HS.out (by simp) (fun c fz e => by cases e)
  obtain ⟨a2, cap2, rfl, _, _, _⟩ := ownsRow_slice hown2
  have d0 := cell_of_block hS2 0
  simp only [List.getElem?_toArray, List.getElem?_cons_zero] at d0
  have f0 := frozen_of_block hS2 0
  have hcel : Lib.byteCells (x ++ Lib.itoa k) = Lib.byteCells x ++ Lib.byteCells (Lib.itoa k) := by unfold Lib.byteCells; rw [List.map_append]
  have HP := hide (show TellPost w' B T x (Lib.itoa k) (.returned (.tuple #[])) (w2.setCell ⟨T, 0, none⟩ (.slice a2 (x.length + (Lib.itoa k).length) cap2)) from
    tell_end ⟨rfl, ⟨hB, _, heap_setCell_same hS2, by rw [List.length_append, hcel]; exact ownsRow_keep (keep_set hS2 (by decide)) hown2⟩, hb2.setCell hB _⟩ HL.out (by have := Lib.itoa_length_le k h0 h1; omega))
  clear hown2 hb2 hok2 hS2 hcel
  go_wp2
  refine bodyPost_ret (results_none rfl _ _ _) rfl ?_
  exact HP.out
end Go.Proofs.YtlobegpjenabaaaGreatDoor
