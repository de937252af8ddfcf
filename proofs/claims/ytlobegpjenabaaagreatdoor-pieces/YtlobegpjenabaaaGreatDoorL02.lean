/- Facts on the plain functions: data by descent. -/
import Derived.Test.YtlobegpjenabaaaGreatDoorL01
import Derived.Deep.RegionWith
import Derived.Deep.DrawnRows
import Derived.Deep.DeepCutAuto
import Derived.Lib.Strings
import Derived.Deep.CutBlock
import Derived.Shelf.Small.Strs
import Derived.Shelf.Strconv.Itoa0
import Derived.Shelf.Strconv.Itoa1
import Derived.Shelf.LaysM
import Derived.Shelf.Strconv.Itoa2
import Derived.Shelf.Strconv.ParseIntEmpty
import Derived.Shelf.Strconv.Clone
import Derived.Shelf.Strconv.SyntaxError
import Derived.Shelf.LaysC
import Derived.Shelf.Strconv.ToError
import Derived.Shelf.Strconv.Lower
import Derived.Shelf.Strconv.ParseUint10
import Derived.Shelf.Strconv.ParseUint10Empty
import Derived.Shelf.Strconv.ParseUint10Any
import Derived.Shelf.Strconv.ParseInt10
import Derived.Shelf.Strconv.RangeError
import Derived.Shelf.Strconv.ToErrorRange
import Derived.Shelf.Strconv.ParseUintEmpty
import Derived.Shelf.Strconv.ParseUint10b64
import Derived.Shelf.Strconv.ParseUint10b32
import Derived.Shelf.Strconv.ParseUint10b16
import Derived.Shelf.Strconv.ParseUint10b8
import Derived.Shelf.Strconv.ParseUint10At
import Derived.Shelf.Strconv.ParseInt10At64
import Derived.Shelf.Strconv.ParseInt10At32
import Derived.Shelf.Strconv.ParseInt10At16
import Derived.Shelf.Strconv.ParseInt10At8
import Derived.Shelf.Strconv.ParseInt10All
import Derived.Shelf.Strconv.ParseIntPublic10
import Derived.Shelf.Strconv.ErrVarParseInt
import Derived.Shelf.Strings.Search1
import Derived.Shelf.Strings.Search2
import Derived.Shelf.Strings.Search3
import Derived.Shelf.Strings.Shaped
import Derived.Shelf.Strconv.AppendUint10
import Derived.Shelf.Strconv.AppendInt10
import Derived.Shelf.Strconv.AppendIntPublic10
import Derived.Shelf.Strings.Prefix
import Derived.Shelf.Slices.Turned
import Derived.Ground.Names2Prog
import Derived.Shelf.Slices.Clone
import Derived.Test.YtlobegpjenabaaaGreatDoorProg
namespace Go.Proofs.YtlobegpjenabaaaGreatDoor
open Go
set_option linter.unusedSimpArgs false
set_option linter.unusedVariables false

theorem tokN_le : ∀ (l : List UInt8), tokN l ≤ l.length
  | [] => Nat.le_refl _
  | c :: r => by have := tokN_le r; simp only [tokN, List.length_cons]; split <;> omega
theorem tokEnd_le (l : List UInt8) (i : Nat) (h : i ≤ l.length) : tokEnd l i ≤ l.length := by
  have := tokN_le (l.drop i); simp at this; unfold tokEnd; omega
theorem skipB_le' : ∀ (l : List UInt8) (b : Bool), skipB b l ≤ l.length
  | [], b => by simp [skipB]
  | c :: r, false => by
    have h1 := skipB_le' r false; have h2 := skipB_le' r true
    simp only [skipB, List.length_cons]; split
    · omega
    · split <;> omega
  | c :: r, true => by
    have h1 := skipB_le' r false; have h2 := skipB_le' r true
    simp only [skipB, List.length_cons]; split <;> omega
theorem skipTo_le' (l : List UInt8) (i : Nat) (h : i ≤ l.length) : skipTo l i ≤ l.length := by
  have := skipB_le' (l.drop i) false; simp at this; unfold skipTo; omega

/-- A datum takes at least a byte; a list's rest too. -/
theorem rd_adv (l : List UInt8) : ∀ (n op i : Nat) (m : Option (List D)) (d : D) (k : Nat), i ≤ l.length → (m = none → i < l.length) → rd n l op i m = .inr (d, k) → i < k ∧ k ≤ l.length
  | 0, op, i, m, d, k, _, _, h => by simp [rd] at h
  | n + 1, op, i, none, d, k, hi, hm, h => by
    have hi := hm rfl
    simp only [rd] at h
    split at h
    · cases h
    split at h
    · split at h
      · cases h
      · have := rd_adv l n (op + 1) (i + 1) (some []) d k (by omega) (by simp) h; omega
    split at h
    · split at h
      · cases h
      · split at h
        · cases h
        · rename_i hs
          have h1 := skipTo_le' l (i + 1) (by omega)
          have h2 : i + 1 ≤ skipTo l (i + 1) := by unfold skipTo; omega
          split at h
          · cases h
          · rename_i d' k' hr
            cases h
            have := rd_adv l n (op + 1) (skipTo l (i + 1)) none d' k (by omega) (fun _ => by omega) hr; omega
    split at h
    · cases h
    · rename_i ht
      have h1 := tokEnd_le l i (by omega)
      have h2 : i ≤ tokEnd l i := by unfold tokEnd; omega
      split at h
      · cases h
      · cases h; omega
  | n + 1, op, i, some acc, d, k, hi, hm, h => by
    simp only [rd] at h
    have h1 := skipTo_le' l i hi
    have h2 : i ≤ skipTo l i := by unfold skipTo; omega
    split at h
    · cases h
    split at h
    · cases h; omega
    split at h
    · cases h
    · rename_i d' k' hr
      have := rd_adv l n op (skipTo l i) none d' k' (by omega) (fun _ => by omega) hr
      have := rd_adv l n op k' (some (acc ++ [d'])) d k (by omega) (by simp) h
      omega
end Go.Proofs.YtlobegpjenabaaaGreatDoor

/- latheref: the cursor's list. -/
namespace Go.Proofs.YtlobegpjenabaaaGreatDoor
open Go.RowKit
set_option linter.unusedSimpArgs false
set_option linter.unusedVariables false
attribute [local go_sem ↓] Go.wp_at_zero Go.wp_at_succ

theorem at_getD (s : ByteArray) (k : Nat) (h : k < s.size) : s.data.toList.getD k 0 = s[k] := by
  rw [List.getD_eq_getElem?_getD, List.getElem?_eq_getElem (by simpa using h)]; rfl

theorem RV.zero (w : World) (n : Nat) (h : 0 < n) : RV w n (rcells 0 0 emptyB none) .nil := by
  obtain ⟨m, rfl⟩ : ∃ m, n = m + 1 := ⟨n - 1, by omega⟩
  rfl

theorem heap_alloc_new1 (w : World) (o o' : Obj) : ((w.alloc o).alloc o').heap[w.heap.size + 1]? = some o' := by
  have := heap_alloc_new (w.alloc o) o'
  simpa using this
end Go.Proofs.YtlobegpjenabaaaGreatDoor

/- latheref: the cursor's datum, case by case. -/
namespace Go.Proofs.YtlobegpjenabaaaGreatDoor
open Go.RowKit
set_option linter.unusedSimpArgs false
set_option linter.unusedVariables false
attribute [local go_sem ↓] Go.wp_at_zero Go.wp_at_succ

end Go.Proofs.YtlobegpjenabaaaGreatDoor

/- latheref: the cursor's datum: a quote sign. -/
namespace Go.Proofs.YtlobegpjenabaaaGreatDoor
open Go.RowKit
set_option linter.unusedSimpArgs false
set_option linter.unusedVariables false
attribute [local go_sem ↓] Go.wp_at_zero Go.wp_at_succ

end Go.Proofs.YtlobegpjenabaaaGreatDoor

/- latheref: the cursor's datum: a token. -/
namespace Go.Proofs.YtlobegpjenabaaaGreatDoor
open Go.RowKit
set_option linter.unusedSimpArgs false
set_option linter.unusedVariables false

theorem tok_stop (s : ByteArray) (k : Nat) (h : k < s.size) (c : sortI s[k].toNat = 0) : tokEnd s.data.toList k = k := by
  simp only [tokEnd]; rw [drop_at s k h]; simp only [tokN]; rw [if_pos (show sortU s[k] = 0 from c)]; rfl
theorem tok_go (s : ByteArray) (k : Nat) (h : k < s.size) (c : ¬ sortI s[k].toNat = 0) : tokEnd s.data.toList (k + 1) = tokEnd s.data.toList k := by
  simp only [tokEnd]; rw [drop_at s k h]; simp only [tokN]; rw [if_neg (show ¬ sortU s[k] = 0 from c)]; omega
theorem tok_last (s : ByteArray) (k : Nat) (h : s.size ≤ k) : tokEnd s.data.toList k = k := by
  simp only [tokEnd]; rw [drop_end s k h]; rfl

theorem RV.atom (w : World) (n : Nat) (h : 0 < n) (cs : Array Value) : ∀ (d : D), atomR d = some cs → RV w n cs d := by
  obtain ⟨m, rfl⟩ : ∃ m, n = m + 1 := ⟨n - 1, by omega⟩
  intro d hd
  cases d with
  | agg l => cases hd
  | _ => exact hd

end Go.Proofs.YtlobegpjenabaaaGreatDoor

/- latheref.Read: the forms of a text, or what is wrong with it, and where. -/
namespace Go.Proofs.YtlobegpjenabaaaGreatDoor
open Go.RowKit
set_option linter.unusedSimpArgs false
set_option linter.unusedVariables false
attribute [local go_sem ↓] Go.wp_at_zero Go.wp_at_succ

end Go.Proofs.YtlobegpjenabaaaGreatDoor

/- latheref: keyword, variable, head. -/
namespace Go.Proofs.YtlobegpjenabaaaGreatDoor
open Go.RowKit
set_option linter.unusedSimpArgs false
set_option linter.unusedVariables false

theorem kwB_of (s : ByteArray) : kwB s.data.toList = (s.toList == [113, 117, 111, 116, 101] || (s.toList == [105, 102] || (s.toList == [100, 101, 102, 105, 110, 101] || (s.toList == [115, 101, 116, 33] || (s.toList == [108, 97, 109, 98, 100, 97] || (s.toList == [98, 101, 103, 105, 110] || s.toList == [108, 101, 116])))))) := by
  rw [ByteArray.toList_eq]
  simp only [kwB, kws, List.contains_cons, List.contains_nil, Bool.or_false]

/-- A row of values that is read alone: it may begin anywhere in a block. -/
def RowRd (w : World) (v : Value) (css : List (Array Value)) : Prop :=
  ∃ a cap, v = .slice a css.length cap ∧ css.length ≤ cap ∧ cap ≤ maxLen ∧ (0 < css.length → ∃ g off, a = some ⟨g, off, none⟩ ∧ g < w.heap.size ∧ ∀ (j : Nat) u, (flat css)[j]? = some u → w.cell? ⟨g, off + j, none⟩ = some u)
theorem Row5.rd {B : Nat} {w : World} {v : Value} {css : List (Array Value)} (h : Row5 B w v css) : RowRd w v css := by
  obtain ⟨a, cap, hv, h1, h2, h3⟩ := ownsRow_slice h
  refine ⟨a, cap, hv, h1, h2, fun hp => ?_⟩
  obtain ⟨g, ha, _, hg, hc⟩ := h3 hp
  exact ⟨g, 0, ha, hg, fun j u hj => by rw [Nat.zero_add]; exact hc j u hj⟩
theorem RowRd.below {w w' : World} {v : Value} {css : List (Array Value)} (h : RowRd w v css) (hb : Below w.heap.size w w') : RowRd w' v css := by
  obtain ⟨a, cap, hv, h1, h2, h3⟩ := h
  refine ⟨a, cap, hv, h1, h2, fun hp => ?_⟩
  obtain ⟨g, off, ha, hg, hc⟩ := h3 hp
  exact ⟨g, off, ha, Nat.lt_of_lt_of_le hg hb.size, fun j u hj => by rw [hb.cell (p := ⟨g, off + j, none⟩) hg]; exact hc j u hj⟩
theorem RVs.below {w w' : World} {n : Nat} {css : List (Array Value)} {ds : List D} (h : RVs w n css ds) (hb : Below w.heap.size w w') : RVs w' n css ds := RVs.keep (Keep.of_below hb) _ _ _ h

end Go.Proofs.YtlobegpjenabaaaGreatDoor

/- latheref: variables. -/
namespace Go.Proofs.YtlobegpjenabaaaGreatDoor
open Go.RowKit
set_option linter.unusedSimpArgs false
set_option linter.unusedVariables false

/-- Are the first k variables, no two the same? -/
def varsT (ds : List D) (k : Nat) : Bool := varsL [] (ds.take k)
/-- Is none of the first j names that of number k? -/
def freshT (ds : List D) (k j : Nat) : Bool := !(((ds.take j).map nameD).contains (nameD (ds.getD k .nil)))

theorem varsL_append : ∀ (ds : List D) (d : D) (seen : List (List UInt8)), varsL seen (ds ++ [d]) = (varsL seen ds && (varD d && !((seen ++ ds.map nameD).contains (nameD d))))
  | [], d, seen => by simp [varsL]
  | e :: r, d, seen => by
    have := varsL_append r d (seen ++ [nameD e])
    simp only [List.cons_append, varsL, List.map_cons]
    rw [this, List.append_assoc]
    simp [Bool.and_assoc]
theorem varsT_step (ds : List D) (k : Nat) (h : k < ds.length) : varsT ds (k + 1) = (varsT ds k && (varD ds[k] && freshT ds k k)) := by
  unfold varsT freshT
  rw [List.take_succ_eq_append_getElem h, varsL_append]
  simp [List.getD_eq_getElem?_getD, h]
theorem varsT_end (ds : List D) : varsT ds ds.length = varsL [] ds := by unfold varsT; rw [List.take_length]
/-- Where one of the first is none, all are not. -/
theorem varsT_no (ds : List D) (k : Nat) (h : varsT ds k = false) (hk : k ≤ ds.length) : varsL [] ds = false := by
  have : ∀ j, k + j ≤ ds.length → varsT ds (k + j) = false := by
    intro j
    induction j with
    | zero => intro _; exact h
    | succ j ih => intro hj; rw [← Nat.add_assoc, varsT_step ds (k + j) (by omega), ih (by omega)]; rfl
  have := this (ds.length - k) (by omega)
  rw [show k + (ds.length - k) = ds.length from by omega, varsT_end] at this; exact this
theorem getD_at (ds : List D) (k : Nat) (h : k < ds.length) : ds.getD k .nil = ds[k] := by simp [List.getD_eq_getElem?_getD, h]
end Go.Proofs.YtlobegpjenabaaaGreatDoor

/-
  DERIVED: THE SHELF's CONTRACTS AT THIS DUMP, IN PLAIN WORDS (tools/lay-plain.mjs out of 'TrimShelf.lean', which tools/lay-shelf.mjs wrote): THE SAME DECLARATIONS UNDER THE SAME NAMES: 'import', 'namespace', 'open', 'def', 'theorem' AND NOTHING ELSE: no command of the shelf's: FOR A HAND-IN. Each laying: the table of numbers ('.._ren') and one theorem, a field a fact of the dump's own or the kernel's comparison; each contract: ONE APPLICATION.
-/
namespace Go.Proofs
open Go.Shelf
def Tryz.lays137_ren : Go.Shelf.Ren := ⟨fun | 137 => 200 | 217 => 221 | 266 => 238 | n => n, fun | 9 => 9 | 5 => 5 | 3 => 3 | n => n, fun | n => n⟩
theorem Tryz.lays137 : Go.Proofs.Lays.n137 Tryz.prog Tryz.lays137_ren := {
  mixed := by kernel_rfl
  f137 := Tryz.func200.trans (congrArg some (by kernel_rfl))
  f217 := Tryz.func221.trans (congrArg some (by kernel_rfl))
  f266 := Tryz.func238.trans (congrArg some (by kernel_rfl))
  t3 := Tryz.underlying3
  a3 := Tryz.isAgg3
  z3 := Tryz.sizeOf3
  v3 := Tryz.zeroValue3
  t5 := Tryz.underlying5
  a5 := Tryz.isAgg5
  z5 := Tryz.sizeOf5
  v5 := Tryz.zeroValue5
  t9 := Tryz.underlying9
  a9 := Tryz.isAgg9
  z9 := Tryz.sizeOf9
  v9 := Tryz.zeroValue9 }
open Go.RowKit in
/-- strings.IndexByte: "IndexByte returns the index of the first instance of c in s, or -1 if c is not present in s.": IT RETURNS 'Lib.indexByte s c'; the world is as it was. (LAID: no walk: one application.) -/
theorem Tryz.strings_IndexByte (s : ByteArray) (c : Int) (w : World) :
    Calls Tryz.prog 200 #[.string s, .int .u8 c] w fun e w' => e = .returned (.int .i64 (Lib.indexByte s.data.toList c.toNat.toUInt8)) ∧ w' = w := Any.strings_IndexByte Tryz.lays137 s c w
def Tryz.laysM316_ren : Go.Shelf.Ren := ⟨fun | 316 => 207 | n => n, fun | 9 => 9 | 3 => 3 | 4 => 4 | 37 => 72 | 0 => 0 | 127 => 345 | 5 => 5 | n => n, fun | n => n⟩
theorem Tryz.laysM316 : Go.Proofs.LaysM.n316 Tryz.prog Tryz.laysM316_ren := {
  mixed := by kernel_rfl
  f316 := Tryz.func207.trans (congrArg some (by kernel_rfl))
  t0 := Tryz.underlying0
  a0 := Tryz.isAgg0
  z0 := Tryz.sizeOf0
  v0 := Tryz.zeroValue0
  t3 := Tryz.underlying3
  a3 := Tryz.isAgg3
  z3 := Tryz.sizeOf3
  v3 := Tryz.zeroValue3
  t4 := Tryz.underlying4
  a4 := Tryz.isAgg4
  z4 := Tryz.sizeOf4
  v4 := Tryz.zeroValue4
  t9 := Tryz.underlying9
  a9 := Tryz.isAgg9
  z9 := Tryz.sizeOf9
  v9 := Tryz.zeroValue9
  t37 := Tryz.underlying72
  a37 := Tryz.isAgg72
  z37 := Tryz.sizeOf72
  v37 := Tryz.zeroValue72
  t127 := Tryz.underlying345
  a127 := Tryz.isAgg345
  z127 := Tryz.sizeOf345
  v127 := Tryz.zeroValue345
  t5 := Tryz.underlying5
  a5 := Tryz.isAgg5
  z5 := Tryz.sizeOf5
  v5 := Tryz.zeroValue5
  i0 := by kernel_rfl
  i3 := by kernel_rfl
  i4 := by kernel_rfl
  i5 := by kernel_rfl
  i9 := by kernel_rfl
  i37 := by kernel_rfl
  i127 := by kernel_rfl }
open Go.RowKit in
/-- internal/stringslite.Clone (what strings.Clone calls): "Clone returns a fresh copy of s.": THE SAME BYTES. Of what was there nothing has turned (a new row is laid, and frozen, where s is not empty). (LAID: no walk: one application.) -/
theorem Tryz.stringslite_Clone (s : ByteArray) (w : World) (hlim : s.size ≤ 281474976710656) :
    Calls Tryz.prog 207 #[.string s] w fun e w' => e = .returned (.string s) ∧ Below w.heap.size w w' := Any.stringslite_Clone Tryz.laysM316 s w hlim
def Tryz.laysC174_ren : Go.Shelf.Ren := ⟨fun | 174 => 141 | 247 => 205 | 245 => 206 | 287 => 224 | 279 => 225 | 280 => 226 | 281 => 227 | 282 => 228 | 321 => 241 | 322 => 242 | 316 => 207 | 171 => 244 | 205 => 243 | 243 => 250 | 246 => 253 | 283 => 254 | 284 => 255 | 285 => 256 | 286 => 257 | 129 => 259 | 317 => 258 | 318 => 260 | 319 => 261 | 320 => 262 | 337 => 263 | 338 => 264 | n => n, fun | 9 => 9 | 3 => 3 | 2 => 2 | 75 => 103 | 85 => 254 | 4 => 4 | 167 => 337 | 5 => 5 | 53 => 338 | 175 => 339 | 46 => 341 | 168 => 342 | 37 => 72 | 0 => 0 | 210 => 354 | 21 => 21 | 127 => 345 | 145 => 359 | 143 => 357 | 171 => 365 | 173 => 368 | 212 => 371 | 51 => 361 | 20 => 20 | 213 => 372 | 232 => 375 | 233 => 376 | 80 => 232 | n => n, fun | 15 => 1 | 16 => 2 | 17 => 4 | 18 => 5 | 19 => 6 | n => n⟩
theorem Tryz.laysC174 : Go.Proofs.LaysC.n174 Tryz.prog Tryz.laysC174_ren := {
  mixed := by kernel_rfl
  f129 := Tryz.func259.trans (congrArg some (by kernel_rfl))
  f171 := Tryz.func244.trans (congrArg some (by kernel_rfl))
  f174 := Tryz.func141.trans (congrArg some (by kernel_rfl))
  f205 := Tryz.func243.trans (congrArg some (by kernel_rfl))
  f243 := Tryz.func250.trans (congrArg some (by kernel_rfl))
  f245 := Tryz.func206.trans (congrArg some (by kernel_rfl))
  f246 := Tryz.func253.trans (congrArg some (by kernel_rfl))
  f247 := Tryz.func205.trans (congrArg some (by kernel_rfl))
  f279 := Tryz.func225.trans (congrArg some (by kernel_rfl))
  f280 := Tryz.func226.trans (congrArg some (by kernel_rfl))
  f281 := Tryz.func227.trans (congrArg some (by kernel_rfl))
  f282 := Tryz.func228.trans (congrArg some (by kernel_rfl))
  f283 := Tryz.func254.trans (congrArg some (by kernel_rfl))
  f284 := Tryz.func255.trans (congrArg some (by kernel_rfl))
  f285 := Tryz.func256.trans (congrArg some (by kernel_rfl))
  f286 := Tryz.func257.trans (congrArg some (by kernel_rfl))
  f287 := Tryz.func224.trans (congrArg some (by kernel_rfl))
  f316 := Tryz.func207.trans (congrArg some (by kernel_rfl))
  f317 := Tryz.func258.trans (congrArg some (by kernel_rfl))
  f318 := Tryz.func260.trans (congrArg some (by kernel_rfl))
  f319 := Tryz.func261.trans (congrArg some (by kernel_rfl))
  f320 := Tryz.func262.trans (congrArg some (by kernel_rfl))
  f321 := Tryz.func241.trans (congrArg some (by kernel_rfl))
  f322 := Tryz.func242.trans (congrArg some (by kernel_rfl))
  f337 := Tryz.func263.trans (congrArg some (by kernel_rfl))
  f338 := Tryz.func264.trans (congrArg some (by kernel_rfl))
  t0 := Tryz.underlying0
  a0 := Tryz.isAgg0
  z0 := Tryz.sizeOf0
  v0 := Tryz.zeroValue0
  t2 := Tryz.underlying2
  a2 := Tryz.isAgg2
  z2 := Tryz.sizeOf2
  v2 := Tryz.zeroValue2
  t3 := Tryz.underlying3
  a3 := Tryz.isAgg3
  z3 := Tryz.sizeOf3
  v3 := Tryz.zeroValue3
  t4 := Tryz.underlying4
  a4 := Tryz.isAgg4
  z4 := Tryz.sizeOf4
  v4 := Tryz.zeroValue4
  t5 := Tryz.underlying5
  a5 := Tryz.isAgg5
  z5 := Tryz.sizeOf5
  v5 := Tryz.zeroValue5
  t9 := Tryz.underlying9
  a9 := Tryz.isAgg9
  z9 := Tryz.sizeOf9
  v9 := Tryz.zeroValue9
  t20 := Tryz.underlying20
  a20 := Tryz.isAgg20
  z20 := Tryz.sizeOf20
  v20 := Tryz.zeroValue20
  t21 := Tryz.underlying21
  a21 := Tryz.isAgg21
  z21 := Tryz.sizeOf21
  v21 := Tryz.zeroValue21
  t37 := Tryz.underlying72
  a37 := Tryz.isAgg72
  z37 := Tryz.sizeOf72
  v37 := Tryz.zeroValue72
  t46 := Tryz.underlying341
  a46 := Tryz.isAgg341
  z46 := Tryz.sizeOf341
  v46 := Tryz.zeroValue341
  t51 := Tryz.underlying361
  a51 := Tryz.isAgg361
  z51 := Tryz.sizeOf361
  v51 := Tryz.zeroValue361
  t53 := Tryz.underlying338
  a53 := Tryz.isAgg338
  z53 := Tryz.sizeOf338
  v53 := Tryz.zeroValue338
  t75 := Tryz.underlying103
  a75 := Tryz.isAgg103
  z75 := Tryz.sizeOf103
  v75 := Tryz.zeroValue103
  t85 := Tryz.underlying254
  a85 := Tryz.isAgg254
  z85 := Tryz.sizeOf254
  v85 := Tryz.zeroValue254
  t127 := Tryz.underlying345
  a127 := Tryz.isAgg345
  z127 := Tryz.sizeOf345
  v127 := Tryz.zeroValue345
  t143 := Tryz.underlying357
  a143 := Tryz.isAgg357
  z143 := Tryz.sizeOf357
  v143 := Tryz.zeroValue357
  t145 := Tryz.underlying359
  a145 := Tryz.isAgg359
  z145 := Tryz.sizeOf359
  v145 := Tryz.zeroValue359
  t167 := Tryz.underlying337
  a167 := Tryz.isAgg337
  z167 := Tryz.sizeOf337
  v167 := Tryz.zeroValue337
  t168 := Tryz.underlying342
  a168 := Tryz.isAgg342
  z168 := Tryz.sizeOf342
  v168 := Tryz.zeroValue342
  t171 := Tryz.underlying365
  a171 := Tryz.isAgg365
  z171 := Tryz.sizeOf365
  v171 := Tryz.zeroValue365
  t173 := Tryz.underlying368
  a173 := Tryz.isAgg368
  z173 := Tryz.sizeOf368
  v173 := Tryz.zeroValue368
  t175 := Tryz.underlying339
  a175 := Tryz.isAgg339
  z175 := Tryz.sizeOf339
  v175 := Tryz.zeroValue339
  t210 := Tryz.underlying354
  a210 := Tryz.isAgg354
  z210 := Tryz.sizeOf354
  v210 := Tryz.zeroValue354
  t212 := Tryz.underlying371
  a212 := Tryz.isAgg371
  z212 := Tryz.sizeOf371
  v212 := Tryz.zeroValue371
  t213 := Tryz.underlying372
  a213 := Tryz.isAgg372
  z213 := Tryz.sizeOf372
  t232 := Tryz.underlying375
  a232 := Tryz.isAgg375
  z232 := Tryz.sizeOf375
  v232 := Tryz.zeroValue375
  t233 := Tryz.underlying376
  a233 := Tryz.isAgg376
  z233 := Tryz.sizeOf376
  v233 := Tryz.zeroValue376
  g15 := by kernel_rfl
  g16 := by kernel_rfl
  g17 := by kernel_rfl
  g18 := by kernel_rfl
  g19 := by kernel_rfl
  t80 := Tryz.underlying232
  a80 := Tryz.isAgg232
  z80 := Tryz.sizeOf232
  v80 := Tryz.zeroValue232
  i0 := by kernel_rfl
  i2 := by kernel_rfl
  i3 := by kernel_rfl
  i4 := by kernel_rfl
  i5 := by kernel_rfl
  i9 := by kernel_rfl
  i20 := by kernel_rfl
  i21 := by kernel_rfl
  i37 := by kernel_rfl
  i46 := by kernel_rfl
  i51 := by kernel_rfl
  i53 := by kernel_rfl
  i75 := by kernel_rfl
  i80 := by kernel_rfl
  i85 := by kernel_rfl
  i127 := by kernel_rfl
  i143 := by kernel_rfl
  i145 := by kernel_rfl
  i167 := by kernel_rfl
  i168 := by kernel_rfl
  i171 := by kernel_rfl
  i173 := by kernel_rfl
  i175 := by kernel_rfl
  i210 := by kernel_rfl
  i212 := by kernel_rfl
  i232 := by kernel_rfl
  i233 := by kernel_rfl
  m15 := by kernel_rfl
  m16 := by kernel_rfl
  m17 := by kernel_rfl
  m18 := by kernel_rfl
  m19 := by kernel_rfl
  c0 := by kernel_rfl
  c2 := by kernel_rfl
  c3 := by kernel_rfl
  c4 := by kernel_rfl
  c5 := by kernel_rfl
  c9 := by kernel_rfl
  c20 := by kernel_rfl
  c21 := by kernel_rfl
  c37 := by kernel_rfl
  c46 := by kernel_rfl
  c51 := by kernel_rfl
  c53 := by kernel_rfl
  c75 := by kernel_rfl
  c80 := by kernel_rfl
  c85 := by kernel_rfl
  c127 := by kernel_rfl
  c143 := by kernel_rfl
  c145 := by kernel_rfl
  c167 := by kernel_rfl
  c168 := by kernel_rfl
  c171 := by kernel_rfl
  c173 := by kernel_rfl
  c175 := by kernel_rfl
  c210 := by kernel_rfl
  c212 := by kernel_rfl
  c213 := by kernel_rfl
  c232 := by kernel_rfl
  c233 := by kernel_rfl }
open Go.RowKit in
/-- strconv.ParseInt(s, 10, 64), AT EVERY STRING THAT SPELLS AN int64 ('Lib.parseIntB 64 s.data.toList = .ok v'): v, AND NO ERROR. (LAID: no walk: one application.) -/
theorem Tryz.strconv_ParseInt_10_at64_ok (s : ByteArray) (hmax : s.size ≤ 9223372036854775806) (v : Int) (h : Lib.parseIntB 64 s.data.toList = .ok v) (w : World) :
    Calls Tryz.prog 141 #[.string s, .int .i64 10, .int .i64 64] w fun e w' => e = .returned (.tuple #[.int .i64 v, .nilIface]) ∧ (w' = w ∨ ∃ t, w' = Lib.bytesWorld w 5 t) := Any.strconv_ParseInt_10_at64_ok Tryz.laysC174 s hmax v h w
def Tryz.lays144_ren : Go.Shelf.Ren := ⟨fun | 144 => 204 | 143 => 223 | 219 => 240 | 217 => 221 | 225 => 247 | 224 => 248 | 267 => 249 | 266 => 238 | 314 => 252 | n => n, fun | 9 => 9 | 4 => 4 | 3 => 3 | 5 => 5 | 46 => 341 | 146 => 362 | 51 => 361 | n => n, fun | 1 => 3 | n => n⟩
theorem Tryz.lays144 : Go.Proofs.Lays.n144 Tryz.prog Tryz.lays144_ren := {
  mixed := by kernel_rfl
  f143 := Tryz.func223.trans (congrArg some (by kernel_rfl))
  f144 := Tryz.func204.trans (congrArg some (by kernel_rfl))
  f217 := Tryz.func221.trans (congrArg some (by kernel_rfl))
  f219 := Tryz.func240.trans (congrArg some (by kernel_rfl))
  f224 := Tryz.func248.trans (congrArg some (by kernel_rfl))
  f225 := Tryz.func247.trans (congrArg some (by kernel_rfl))
  f266 := Tryz.func238.trans (congrArg some (by kernel_rfl))
  f267 := Tryz.func249.trans (congrArg some (by kernel_rfl))
  f314 := Tryz.func252.trans (congrArg some (by kernel_rfl))
  t3 := Tryz.underlying3
  a3 := Tryz.isAgg3
  z3 := Tryz.sizeOf3
  v3 := Tryz.zeroValue3
  t4 := Tryz.underlying4
  a4 := Tryz.isAgg4
  z4 := Tryz.sizeOf4
  v4 := Tryz.zeroValue4
  t5 := Tryz.underlying5
  a5 := Tryz.isAgg5
  z5 := Tryz.sizeOf5
  v5 := Tryz.zeroValue5
  t9 := Tryz.underlying9
  a9 := Tryz.isAgg9
  z9 := Tryz.sizeOf9
  v9 := Tryz.zeroValue9
  t46 := Tryz.underlying341
  a46 := Tryz.isAgg341
  z46 := Tryz.sizeOf341
  v46 := Tryz.zeroValue341
  t51 := Tryz.underlying361
  a51 := Tryz.isAgg361
  z51 := Tryz.sizeOf361
  v51 := Tryz.zeroValue361
  t146 := Tryz.underlying362
  a146 := Tryz.isAgg362
  z146 := Tryz.sizeOf362
  v146 := Tryz.zeroValue362
  g1 := by kernel_rfl }
open Go.RowKit Go.Lib in
/-- strings.Contains: "Contains reports whether substr is within s.": IT RETURNS 'Lib.contains s substr'; the world is as it was. (LAID: no walk: one application.) -/
theorem Tryz.strings_Contains (s sub : ByteArray) (m : Int) (w : World) (hs : s.size < 4294967281) (hm : w.cell? ⟨3, 0, none⟩ = some (.int .i64 m)) :
    Calls Tryz.prog 204 #[.string s, .string sub] w fun e w' => e = .returned (.bool (Lib.contains s.data.toList sub.data.toList)) ∧ w' = w := Any.strings_Contains Tryz.lays144 s sub m w hs hm
def Tryz.lays101_ren : Go.Shelf.Ren := ⟨fun | 101 => 201 | 208 => 222 | 206 => 239 | n => n, fun | 9 => 9 | 4 => 4 | 3 => 3 | n => n, fun | n => n⟩
theorem Tryz.lays101 : Go.Proofs.Lays.n101 Tryz.prog Tryz.lays101_ren := {
  mixed := by kernel_rfl
  f101 := Tryz.func201.trans (congrArg some (by kernel_rfl))
  f206 := Tryz.func239.trans (congrArg some (by kernel_rfl))
  f208 := Tryz.func222.trans (congrArg some (by kernel_rfl))
  t3 := Tryz.underlying3
  a3 := Tryz.isAgg3
  z3 := Tryz.sizeOf3
  v3 := Tryz.zeroValue3
  t4 := Tryz.underlying4
  a4 := Tryz.isAgg4
  z4 := Tryz.sizeOf4
  v4 := Tryz.zeroValue4
  t9 := Tryz.underlying9
  a9 := Tryz.isAgg9
  z9 := Tryz.sizeOf9
  v9 := Tryz.zeroValue9 }
open Go.RowKit Go.Lib in
/-- strings.TrimPrefix: "TrimPrefix returns s without the provided leading prefix string. If s doesn't start with prefix, s is returned unchanged.": IT RETURNS 'Lib.trimPrefix s prefix'; the world is as it was. (LAID: no walk: one application.) -/
theorem Tryz.strings_TrimPrefix (s p : ByteArray) (w : World) :
    Calls Tryz.prog 201 #[.string s, .string p] w fun e w' => e = .returned (.string ⟨(Lib.trimPrefix s.data.toList p.data.toList).toArray⟩) ∧ w' = w := Any.strings_TrimPrefix Tryz.lays101 s p w
def Tryz.lays110_ren : Go.Shelf.Ren := ⟨fun | 110 => 229 | 109 => 101 | n => n, fun | 31 => 26 | 9 => 9 | 4 => 4 | 3 => 3 | 0 => 0 | n => n, fun | n => n⟩
theorem Tryz.lays110 : Go.Proofs.Lays.n110 Tryz.prog Tryz.lays110_ren := {
  mixed := by kernel_rfl
  f109 := Tryz.func101.trans (congrArg some (by kernel_rfl))
  f110 := Tryz.func229.trans (congrArg some (by kernel_rfl))
  t0 := Tryz.underlying0
  a0 := Tryz.isAgg0
  z0 := Tryz.sizeOf0
  v0 := Tryz.zeroValue0
  t3 := Tryz.underlying3
  a3 := Tryz.isAgg3
  z3 := Tryz.sizeOf3
  v3 := Tryz.zeroValue3
  t4 := Tryz.underlying4
  a4 := Tryz.isAgg4
  z4 := Tryz.sizeOf4
  v4 := Tryz.zeroValue4
  t9 := Tryz.underlying9
  a9 := Tryz.isAgg9
  z9 := Tryz.sizeOf9
  v9 := Tryz.zeroValue9
  t31 := Tryz.underlying26
  a31 := Tryz.isAgg26
  z31 := Tryz.sizeOf26
  v31 := Tryz.zeroValue26 }
open Go.Lib in
/-- slices.Contains at []string: "Contains reports whether v is present in s.": IT RETURNS 'Lib.containsS (the elements) v', which is true just where v is among them ('Lib.containsS_iff'); the world is as it was. ITS CALLEE slices.Index IS MET BY ITS OWN CONTRACT OFF THE SHELF (lay that first): no loop is walked here. (LAID: no walk: one application.) -/
theorem Tryz.slices_Contains_string (b off n c : Nat) (zs : List ByteArray) (x : ByteArray) (w : World) (hz : n ≤ zs.length) (hbig : n ≤ 9223372036854775807) (hc : ∀ j, j < zs.length → w.cell? ⟨b, off + j, none⟩ = some (.string (zs.getD j ByteArray.empty))) :
    Calls Tryz.prog 229 #[.slice (some ⟨b, off, none⟩) n c, .string x] w fun e w' => e = .returned (.bool (Lib.containsS (zs.take n) x)) ∧ w' = w := Any.slices_Contains_string Tryz.lays110 b off n c zs x w hz hbig hc
open Go.Lib in
/-- The same at a slice of length 0, a nil one too. (LAID: no walk: one application.) -/
theorem Tryz.slices_Contains_string_empty (a : Option Addr) (c : Nat) (x : ByteArray) (w : World) :
    Calls Tryz.prog 229 #[.slice a 0 c, .string x] w fun e w' => e = .returned (.bool false) ∧ w' = w := Any.slices_Contains_string_empty Tryz.lays110 a c x w
end Go.Proofs

/- read: what a piece is: its length, its kind. -/
namespace Go.Proofs.YtlobegpjenabaaaGreatDoor
open Go.RowKit
set_option linter.unusedSimpArgs false
set_option linter.unusedVariables false

/-- What the library keeps as internal/bytealg.MaxLen is some int. -/
def MaxOk (w : World) : Prop := ∃ m, w.cell? ⟨3, 0, none⟩ = some (.int .i64 m)
theorem MaxOk.lt {w : World} (h : MaxOk w) : 3 < w.heap.size := by
  obtain ⟨m, h⟩ := h
  rcases Nat.lt_or_ge 3 w.heap.size with hlt | hge
  · exact hlt
  · exfalso; simp only [World.cell?] at h; rw [Array.getElem?_eq_none hge] at h; cases h
theorem MaxOk.below {w w' : World} {B : Nat} (h : MaxOk w) (hb : Below B w w') (hB : 3 < B) : MaxOk w' := by
  obtain ⟨m, h⟩ := h
  exact ⟨m, by rw [hb.cell (p := ⟨3, 0, none⟩) hB]; exact h⟩
theorem MaxOk.upd {w w' : World} {S : Nat → Prop} (h : MaxOk w) (hu : Upd S w w') (hs : ¬ S 3) : MaxOk w' := by
  have hl := h.lt
  obtain ⟨m, h⟩ := h
  exact ⟨m, by rw [World.cell?_of_block (w := w) (hu.block 3 hl hs)]; exact h⟩

theorem idx_sign : ∀ n, n < 256 → decide (0 ≤ Lib.indexByte [43, 45, 42, 47, 60, 62, 61, 63, 33, 35] (Nat.toUInt8 n)) = (signs.contains (n : Int) || (n : Int) == 35) := by decide +kernel

theorem tokB_of (b : Int) (h0 : 0 ≤ b) (h1 : b ≤ 255) : (sortI b != 0) = (lowB b || (digB b || decide (0 ≤ Lib.indexByte [43, 45, 42, 47, 60, 62, 61, 63, 33, 35] b.toNat.toUInt8))) := by
  obtain ⟨n, rfl⟩ := Int.eq_ofNat_of_zero_le h0
  rw [show ((n : Int)).toNat = n from rfl, idx_sign n (by omega)]
  unfold sortI
  cases digB n <;> cases lowB n <;> cases h : ((n : Int) == 35) <;> cases hh : signs.contains (n : Int) <;> simp_all

set_option maxHeartbeats 1000000 in
theorem isTokenByte_any (b : Int) (h0 : 0 ≤ b) (h1 : b ≤ 255) (w : World) :
    Calls Tryz.prog 134 #[.int .u8 b] w fun e w' => e = .returned (.bool (sortI b != 0)) ∧ w' = w := by
  have HT := hide (tokB_of b h0 h1)
  cases hl : lowB b with
  | true =>
    have h2 : 97 ≤ b ∧ b ≤ 122 := by simpa [lowB] using hl
    obtain ⟨h2, h3⟩ := h2
    go_enter Tryz.func134, Tryz.ntmps134
    go_wp2
    go_ret
    exact ⟨ret_bool (by rw [HT.out, hl]; rfl), rfl⟩
  | false =>
    have h2 : ¬ 97 ≤ b ∨ (97 ≤ b ∧ ¬ b ≤ 122) := by simp [lowB] at hl; omega
    have HL := hide hl
    clear hl
    rcases h2 with h2 | ⟨h2, h3⟩
    all_goals
      cases hd : digB b with
      | true =>
        go_enter Tryz.func134, Tryz.ntmps134
        go_wp2_with (go_at_call 199; refine (isDigit_any _ _).mono ?_; rintro e w' ⟨rfl, rfl⟩)
        go_ret
        exact ⟨ret_bool (by rw [HT.out, HL.out, hd]; rfl), rfl⟩
      | false =>
        go_enter Tryz.func134, Tryz.ntmps134
        go_wp2_with (first | (go_at_call 199; refine (isDigit_any _ _).mono ?_; rintro e w' ⟨rfl, rfl⟩) | (go_at_call 200; refine (Tryz.strings_IndexByte _ _ _).mono ?_; rintro e w' ⟨rfl, rfl⟩))
        go_ret
        exact ⟨ret_bool (by rw [HT.out, HL.out, hd]; rfl), rfl⟩

theorem sortI_dig (b : Int) : (sortI b == 1) = digB b := by
  unfold sortI
  cases digB b <;> simp
  split
  · simp
  · split
    · simp
    · split <;> simp

/-- Are the first k digits? -/
def digsT (s : ByteArray) (k : Nat) : Bool := (s.data.toList.take k).all fun c => sortU c == 1
theorem digsT_step (s : ByteArray) (k : Nat) (h : k < s.size) : digsT s (k + 1) = (digsT s k && digB s[k].toNat) := by
  unfold digsT; rw [take_snoc s k h, List.all_append, ← sortI_dig]; simp [sortU]
theorem digsT_no (s : ByteArray) (k : Nat) (hk : k < s.size) (h : digB s[k].toNat = false) : (s.data.toList.all fun c => sortU c == 1) = false := by
  rw [List.all_eq_false]
  exact ⟨s[k], by rw [← at_getD s k hk, List.getD_eq_getElem?_getD, List.getElem?_eq_getElem (by simpa using hk)]; exact List.getElem_mem _, by simp [sortU]; rw [← Bool.not_eq_true] at h; rw [← sortI_dig] at h; simpa using h⟩

set_option maxHeartbeats 1000000 in
theorem isDigits_any (s : ByteArray) (hs : s.size ≤ maxLen) (w : World) :
    Calls Tryz.prog 202 #[.string s] w fun e w' => e = .returned (.bool (s.data.toList.all fun c => sortU c == 1)) ∧ w' = w := by
  unfold maxLen at hs
  have hr : ∃ r, r = (s.data.toList.all fun c => sortU c == 1) := ⟨_, rfl⟩
  obtain ⟨r, hr⟩ := hr
  rw [← hr]
  have HR := hide hr
  clear hr
  go_enter Tryz.func202, Tryz.ntmps202
  go_wp2
  go_loop [6] (fun v => ∃ k : Nat, k ≤ s.size ∧ v = .int .i64 k ∧ digsT s k = true) (fun v => s.size - (intOf v).toNat)
  case atStart => exact ⟨0, Nat.zero_le _, rfl, rfl⟩
  case round =>
    obtain ⟨k, hk, rfl, hd⟩ := hrel
    have HD := hide hd
    clear hd
    by_cases hlt : k < s.size
    · cases hb : digB s[k].toNat with
      | true =>
        have HS := hide (digsT_step s k hlt)
        go_wp2_with (go_at_call 199; refine (isDigit_any _ _).mono ?_; rintro e w' ⟨rfl, rfl⟩)
        go_round
        case rel => exact ⟨k + 1, by omega, by go_num, by rw [HS.out, HD.out, hb]; rfl⟩
        case measure => simp [intOf]; omega
      | false =>
        have HN := hide (digsT_no s k hlt hb)
        go_wp2_with (go_at_call 199; refine (isDigit_any _ _).mono ?_; rintro e w' ⟨rfl, rfl⟩)
        go_ret
        exact ⟨ret_bool (by rw [HR.out, HN.out]), rfl⟩
    · have hk : k = s.size := by omega
      subst hk
      go_wp2
      go_ret
      exact ⟨ret_bool (by rw [HR.out]; have := HD.out; unfold digsT at this; rw [List.take_of_length_le (by simp)] at this; exact this.symm), rfl⟩

set_option maxHeartbeats 1000000 in
theorem tokenLength_any (s : ByteArray) (hs : s.size ≤ maxLen) (w : World) :
    Calls Tryz.prog 135 #[.string s] w fun e w' => e = .returned (.int .i64 (tokN s.data.toList)) ∧ w' = w := by
  unfold maxLen at hs
  have hr : ∃ r : Int, r = (tokN s.data.toList : Nat) := ⟨_, rfl⟩
  obtain ⟨r, hr⟩ := hr
  rw [← hr]
  have HR : Hid (r = (tokEnd s.data.toList 0 : Nat)) := by show _ = _; rw [hr]; simp [tokEnd]
  clear hr
  go_enter Tryz.func135, Tryz.ntmps135
  go_wp2
  go_loop [6] (fun v => ∃ k : Nat, k ≤ s.size ∧ v = .int .i64 k ∧ tokEnd s.data.toList k = tokEnd s.data.toList 0) (fun v => s.size - (intOf v).toNat)
  case atStart => exact ⟨0, Nat.zero_le _, rfl, rfl⟩
  case round =>
    obtain ⟨k, hk, rfl, hd⟩ := hrel
    have HD := hide hd
    clear hd
    by_cases hlt : k < s.size
    · have hb0 : (0 : Int) ≤ (s[k].toNat : Int) := by omega
      have hb1 : (s[k].toNat : Int) ≤ 255 := by have := s[k].toNat_lt; omega
      cases hb : (sortI s[k].toNat != 0) with
      | true =>
        have HS := hide (tok_go s k hlt (by simpa using hb))
        go_wp2_with (go_at_call 134; refine (isTokenByte_any _ (by omega) (by omega) _).mono ?_; rintro e w' ⟨rfl, rfl⟩)
        go_round
        case rel => exact ⟨k + 1, by omega, by go_num, by rw [HS.out]; exact HD.out⟩
        case measure => simp [intOf]; omega
      | false =>
        have HN := hide (tok_stop s k hlt (by simpa using hb))
        go_wp2_with (go_at_call 134; refine (isTokenByte_any _ (by omega) (by omega) _).mono ?_; rintro e w' ⟨rfl, rfl⟩)
        go_ret
        exact ⟨ret_int (by rw [HR.out, ← HD.out, HN.out]), rfl⟩
    · have HN := hide (tok_last s k (by omega))
      have hk : k = s.size := by omega
      subst hk
      go_wp2
      go_ret
      exact ⟨ret_int (by rw [HR.out, ← HD.out, HN.out]), rfl⟩

/-- How far a comment goes. -/
def cmN : List UInt8 → Nat
  | [] => 0
  | c :: r => if c.toNat = 10 then 0 else cmN r + 1
theorem cmN_idx : ∀ (l : List UInt8), (0 ≤ Lib.indexByte l 10 → Lib.indexByte l 10 = cmN l) ∧ (¬ 0 ≤ Lib.indexByte l 10 → cmN l = l.length)
  | [] => by simp [Lib.indexByte, cmN]
  | c :: r => by
    have ih := cmN_idx r
    simp only [Lib.indexByte, cmN, List.length_cons]
    by_cases h : c = 10
    · subst h; simp
    · have h' : ¬ c.toNat = 10 := fun e => h (UInt8.toNat.inj (by simpa using e))
      rw [if_neg (by simpa using h), if_neg h']
      by_cases h2 : Lib.indexByte r 10 = -1
      · rw [if_pos (by simpa using h2)]
        exact ⟨fun h => absurd h (by omega), fun _ => by rw [ih.2 (by omega)]⟩
      · rw [if_neg (by simpa using h2)]
        by_cases h3 : 0 ≤ Lib.indexByte r 10
        · have := ih.1 h3
          exact ⟨fun _ => by omega, fun h => absurd h (by omega)⟩
        · exact ⟨fun h => by omega, fun _ => by rw [ih.2 h3]⟩

set_option maxHeartbeats 1000000 in
theorem commentLength_any (s : ByteArray) (w : World) :
    Calls Tryz.prog 136 #[.string s] w fun e w' => e = .returned (.int .i64 (cmN s.data.toList)) ∧ w' = w := by
  have HC := hide (cmN_idx s.data.toList)
  by_cases h : 0 ≤ Lib.indexByte s.data.toList 10
  · go_enter Tryz.func136, Tryz.ntmps136
    go_wp2_with (go_at_call 200; refine (Tryz.strings_IndexByte _ _ _).mono ?_; rintro e w' ⟨rfl, rfl⟩)
    go_ret
    exact ⟨ret_int (HC.out.1 h), rfl⟩
  · go_enter Tryz.func136, Tryz.ntmps136
    go_wp2_with (go_at_call 200; refine (Tryz.strings_IndexByte _ _ _).mono ?_; rintro e w' ⟨rfl, rfl⟩)
    go_ret
    exact ⟨ret_int (by rw [HC.out.2 h]; simp), rfl⟩

/-- The length of what stands first. -/
def lenP (l : List UInt8) : Nat := if sortU (l.headD 0) != 0 then tokN l else if (l.headD 0).toNat = 59 then cmN l else 1

set_option maxHeartbeats 1000000 in
theorem length_any (s : ByteArray) (h0 : 0 < s.size) (hs : s.size ≤ maxLen) (w : World) :
    Calls Tryz.prog 82 #[.string s] w fun e w' => e = .returned (.int .i64 (lenP s.data.toList)) ∧ w' = w := by
  have hd : s.data.toList.headD 0 = s[0] := by rw [first_at s h0]; rfl
  have HL : Hid (lenP s.data.toList = if sortI s[0].toNat != 0 then tokN s.data.toList else if s[0].toNat = 59 then cmN s.data.toList else 1) := by show _ = _; unfold lenP; rw [hd]; rfl
  clear hd
  have hb0 : (0 : Int) ≤ (s[0].toNat : Int) := by omega
  have hb1 : (s[0].toNat : Int) ≤ 255 := by have := s[0].toNat_lt; omega
  cases hb : (sortI s[0].toNat != 0) with
  | true =>
    go_enter Tryz.func82, Tryz.ntmps82
    go_wp2_with (first | (go_at_call 134; refine (isTokenByte_any _ (by omega) (by omega) _).mono ?_; rintro e w' ⟨rfl, rfl⟩) | (go_at_call 135; refine (tokenLength_any _ hs _).mono ?_; rintro e w' ⟨rfl, rfl⟩))
    go_ret
    exact ⟨ret_int (by rw [HL.out, hb]; rfl), rfl⟩
  | false =>
    by_cases hc : s[0].toNat = 59
    · have bc : ((s[0].toNat : Int) == 59) = true := by rw [beq_iff_eq]; omega
      have HCC := hide hc
      clear hc
      go_enter Tryz.func82, Tryz.ntmps82
      go_wp2_with (first | (go_at_call 134; refine (isTokenByte_any _ (by omega) (by omega) _).mono ?_; rintro e w' ⟨rfl, rfl⟩) | (go_at_call 136; refine (commentLength_any _ _).mono ?_; rintro e w' ⟨rfl, rfl⟩))
      go_ret
      exact ⟨ret_int (by rw [HL.out, hb, if_neg (by simp), if_pos HCC.out]), rfl⟩
    · have bc : ((s[0].toNat : Int) == 59) = false := by rw [beq_eq_false_iff_ne]; omega
      have HCC := hide hc
      clear hc
      go_enter Tryz.func82, Tryz.ntmps82
      go_wp2_with (go_at_call 134; refine (isTokenByte_any _ (by omega) (by omega) _).mono ?_; rintro e w' ⟨rfl, rfl⟩)
      go_ret
      exact ⟨ret_int (by rw [HL.out, hb, if_neg (by simp), if_neg HCC.out]; rfl), rfl⟩
end Go.Proofs.YtlobegpjenabaaaGreatDoor
