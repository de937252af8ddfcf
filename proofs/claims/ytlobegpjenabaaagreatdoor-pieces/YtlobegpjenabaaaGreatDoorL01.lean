/- The plain functions that the document's answer computes: bytes, tokens, data, forms. No program text is named here. -/
import GoSem.ClaimWide
import Derived.Test.YtlobegpjenabaaaGreatDoorProg
import Derived.WalkKit
import Derived.WalkSpells
import Derived.WalkLawsBesides
import Derived.Deep.QuietTactic
import Derived.BigQuiet
import Derived.RegionTactic
import Derived.Laws.ResultCell
import Derived.Deep.AppendLies
import Derived.Deep.RegionHeld3
namespace Go.Proofs.YtlobegpjenabaaaGreatDoor
open Go

/-- A datum: an int, a bool, a symbol (.lit), a list (.agg). -/
abbrev D := DataW Unit
def sym (s : List UInt8) : D := .lit (.string s)
def num (k : Int) : D := .lit (.int .i64 k)
def boo (b : Bool) : D := .lit (.bool b)
def lst (l : List D) : D := .agg l
/-- the name quote -/
def qsym : List UInt8 := [113, 117, 111, 116, 101]

/-- A digit. -/
def digB (b : Int) : Bool := decide (48 ≤ b) && decide (b ≤ 57)
def lowB (b : Int) : Bool := decide (97 ≤ b) && decide (b ≤ 122)
def signs : List Int := [43, 45, 42, 47, 60, 62, 61, 63, 33]
/-- The sort of a byte: 1 a digit, 2 a letter or sign, 3 the hash, 0 none. -/
def sortI (b : Int) : Int := if digB b then 1 else if lowB b then 2 else if b == 35 then 3 else if signs.contains b then 2 else 0
def sortU (c : UInt8) : Int := sortI c.toNat

/-- How many bytes of spaces, newlines and comments stand first; the bool: within a comment. -/
def skipB : Bool → List UInt8 → Nat
  | _, [] => 0
  | false, c :: r => if c.toNat = 32 ∨ c.toNat = 10 then skipB false r + 1 else if c.toNat = 59 then skipB true r + 1 else 0
  | true, c :: r => if c.toNat = 10 then skipB false r + 1 else skipB true r + 1
/-- The place behind them, from place i on. -/
def skipTo (l : List UInt8) (i : Nat) : Nat := i + skipB false (l.drop i)

/-- How many bytes of tokens stand first. -/
def tokN : List UInt8 → Nat
  | [] => 0
  | c :: r => if sortU c = 0 then 0 else tokN r + 1
def tokEnd (l : List UInt8) (i : Nat) : Nat := i + tokN (l.drop i)

/-- The number of these digits, behind the number a. -/
def valF (a : Int) : List UInt8 → Int
  | [] => a
  | c :: r => valF (10 * a + (c.toNat - 48 : Int)) r
def val (l : List UInt8) : Int := valF 0 l

def minus (t : List UInt8) : Bool := match t with | c :: _ => c.toNat == 45 | [] => false
/-- What stands behind a minus sign, or all. -/
def body (t : List UInt8) : List UInt8 := if minus t then t.tail else t
def digits (t : List UInt8) : Bool := !t.isEmpty && t.all fun c => sortU c == 1
def hashed (t : List UInt8) : Bool := t.any fun c => sortU c == 3
def first1 (t : List UInt8) : Bool := match t with | c :: _ => sortU c == 1 | [] => false
/-- What a token says; none: it can't stand anywhere. -/
def tokD (t : List UInt8) : Option D :=
  if t = [35, 116] then some (boo true) else if t = [35, 102] then some (boo false)
  else if digits (body t) then (if 18 < (body t).length then none else some (num (if minus t then -(val (body t)) else val (body t))))
  else if first1 t || hashed t then none else some (sym t)

/-- What is wrong, and where; or a result. -/
abbrev Res (α : Type) := Sum (Int × Nat) α

/-- A datum from place i on, within so many that are open ('none'), or a list's rest behind the data acc ('some acc'): by descent. -/
def rd : Nat → List UInt8 → Nat → Nat → Option (List D) → Res (D × Nat)
  | 0, _, _, _, _ => .inl (0, 0)
  | n + 1, l, op, i, none =>
    if (l.getD i 0).toNat = 41 then .inl (2, i)
    else if (l.getD i 0).toNat = 40 then (if 20 ≤ op then .inl (3, i) else rd n l (op + 1) (i + 1) (some []))
    else if (l.getD i 0).toNat = 39 then
      (if 20 ≤ op then .inl (3, i) else if skipTo l (i + 1) = l.length then .inl (2, l.length) else
        match rd n l (op + 1) (skipTo l (i + 1)) none with
        | .inl e => .inl e
        | .inr (d, k) => .inr (lst [sym qsym, d], k))
    else if tokEnd l i = i then .inl (2, i)
    else match tokD ((l.drop i).take (tokEnd l i - i)) with
      | none => .inl (2, i)
      | some d => .inr (d, tokEnd l i)
  | n + 1, l, op, i, some acc =>
    if skipTo l i = l.length then .inl (2, l.length)
    else if (l.getD (skipTo l i) 0).toNat = 41 then .inr (lst acc, skipTo l i + 1)
    else match rd n l op (skipTo l i) none with
      | .inl e => .inl e
      | .inr (d, k) => rd n l op k (some (acc ++ [d]))

/-- All data of a text. -/
def readS : Nat → List UInt8 → Nat → List D → Res (List D)
  | 0, _, _, acc => .inr acc
  | n + 1, l, i, acc =>
    if skipTo l i = l.length then .inr acc
    else match rd (2 * l.length + 2) l 0 (skipTo l i) none with
      | .inl e => .inl e
      | .inr (d, k) => readS n l k (acc ++ [d])

/-- The seven keywords. -/
def kws : List (List UInt8) := [[113, 117, 111, 116, 101], [105, 102], [100, 101, 102, 105, 110, 101], [115, 101, 116, 33], [108, 97, 109, 98, 100, 97], [98, 101, 103, 105, 110], [108, 101, 116]]
def kwB (s : List UInt8) : Bool := kws.contains s
def varD : D → Bool
  | .lit (.string s) => !kwB s
  | _ => false
def nameD : D → List UInt8
  | .lit (.string s) => s
  | _ => []
/-- Variables, no two the same; behind those that are there. -/
def varsL : List (List UInt8) → List D → Bool
  | _, [] => true
  | seen, d :: r => varD d && !seen.contains (nameD d) && varsL (seen ++ [nameD d]) r
def isList : D → Bool
  | .agg _ => true
  | _ => false
def itemsD : D → List D
  | .agg l => l
  | _ => []
/-- The keyword of a list, or nothing. -/
def headK : List D → List UInt8
  | .lit (.string s) :: _ => if kwB s then s else []
  | _ => []
def bindL (f : D → Bool) : List (List UInt8) → List D → Bool
  | _, [] => true
  | seen, b :: r => isList b && decide ((itemsD b).length = 2) && f ((itemsD b).getD 1 (lst [])) && bindL f seen r

/-- Is it an expression? The number: more than it is deep. -/
def exprF : Nat → D → Bool
  | 0, _ => false
  | n + 1, .agg l =>
    if headK l = [113, 117, 111, 116, 101] then decide (l.length = 2)
    else if headK l = [105, 102] then (decide (l.length = 3) || decide (l.length = 4)) && l.tail.all (exprF n)
    else if headK l = [115, 101, 116, 33] then decide (l.length = 3) && varD (l.getD 1 (lst [])) && (l.drop 2).all (exprF n)
    else if headK l = [108, 97, 109, 98, 100, 97] then decide (3 ≤ l.length) && isList (l.getD 1 (num 0)) && varsL [] (itemsD (l.getD 1 (num 0))) && (l.drop 2).all (exprF n)
    else if headK l = [98, 101, 103, 105, 110] then decide (2 ≤ l.length) && l.tail.all (exprF n)
    else if headK l = [100, 101, 102, 105, 110, 101] then
      (if 3 ≤ l.length ∧ 0 < (itemsD (l.getD 1 (num 0))).length
       then varD ((itemsD (l.getD 1 (num 0))).getD 0 (num 0)) && varsL [] (itemsD (l.getD 1 (num 0))).tail && (l.drop 2).all (exprF n)
       else decide (l.length = 3) && varD (l.getD 1 (lst [])) && (l.drop 2).all (exprF n))
    else if headK l = [108, 101, 116] then
      decide (3 ≤ l.length) && isList (l.getD 1 (num 0)) && bindL (exprF n) [] (itemsD (l.getD 1 (num 0))) && varsL [] ((itemsD (l.getD 1 (num 0))).map fun b => (itemsD b).getD 0 (num 0)) && (l.drop 2).all (exprF n)
    else !l.isEmpty && l.all (exprF n)
  | _ + 1, .lit (.string s) => !kwB s
  | _ + 1, _ => true

/-- The first form that is none, from number i on. -/
def badAt (n : Nat) : Nat → List D → Option Nat
  | _, [] => none
  | i, d :: r => if exprF n d then badAt n (i + 1) r else some i

/-- P3: what is wrong with a text, and where. -/
def compS (l : List UInt8) : Int × Int :=
  if 1000 < l.length then (1, 1000)
  else match readS (l.length + 1) l 0 [] with
    | .inl (e, a) => (e, a)
    | .inr f => match badAt 21 0 f with
      | some i => (4, i)
      | none => (0, 0)

end Go.Proofs.YtlobegpjenabaaaGreatDoor

/- The smallest functions: what a byte is; what is skipped. -/
namespace Go.Proofs.YtlobegpjenabaaaGreatDoor
open Go.RowKit

theorem ret_int {k : IntKind} {a b : Int} (h : a = b) : Ending.returned (.int k a) = .returned (.int k b) := by rw [h]
theorem ret_bool {a b : Bool} (h : a = b) : Ending.returned (.bool a) = .returned (.bool b) := by rw [h]

set_option maxHeartbeats 400000 in
theorem isDigit_any (b : Int) (w : World) :
    Calls Tryz.prog 199 #[.int .u8 b] w fun e w' => e = .returned (.bool (digB b)) ∧ w' = w := by
  by_cases h1 : 48 ≤ b <;> by_cases h2 : b ≤ 57 <;>
  · go_enter Tryz.func199, Tryz.ntmps199
    go_wp2
    go_ret
    exact ⟨by simp [digB, h1, h2], rfl⟩

end Go.Proofs.YtlobegpjenabaaaGreatDoor

/- The kinds of instructions, as they walk, I: those that call nothing much. -/
namespace Go.Proofs.YtlobegpjenabaaaGreatDoor
open Go.RowKit
set_option linter.unusedSimpArgs false
set_option linter.unusedVariables false

/-- A call hands v back, and leaves the world W. -/
def RetW (v : Value) (W : World) (e : Ending) (w' : World) : Prop := e = .returned v ∧ w' = W
/-- What goes wrong, as a value of error. -/
def wrongV (k : Int) : Value := .iface 107 (.agg #[.int .i64 k])

set_option maxRecDepth 100000 in
set_option maxHeartbeats 1000000 in
theorem form_raw (w : World) (M gf : Nat) (n : Int) (v6 : Value) (hl : M < w.heap.size) (k3 : w.cell? ⟨M, 3, none⟩ = some (.pointer (some ⟨gf, 0, none⟩))) (k6 : w.cell? ⟨M, 6, none⟩ = some v6) (f6 : w.frozen? ⟨M, 6, none⟩ = false) :
    Calls Tryz.prog 116 #[.pointer (some ⟨M, 0, none⟩), .int .i64 n] w (RetW .nilIface ((w.setCell ⟨M, 6, none⟩ (.pointer (some ⟨w.heap.size, 0, none⟩))).alloc (.cells #[.pointer none, .int .i64 0, .pointer (some ⟨gf, 0, none⟩), .int .i64 n, .pointer none] 115))) := by
  go_enter Tryz.func116, Tryz.ntmps116
  go_wp2
  go_ret
  exact ⟨rfl, rfl⟩

set_option maxRecDepth 100000 in
set_option maxHeartbeats 1000000 in
theorem constant_raw (w : World) (M b g len cap : Nat) (n : Nat) (t : TypeId) (x v2 : Value) (k0 : w.cell? ⟨M, 0, none⟩ = some (.pointer (some ⟨b, 0, none⟩))) (k2 : w.cell? ⟨M, 2, none⟩ = some v2) (f2 : w.frozen? ⟨M, 2, none⟩ = false)
    (b1 : w.cell? ⟨b, 1, none⟩ = some (.slice (some ⟨g, 0, none⟩) len cap)) (hn : n < len) (hl : len ≤ 1000000) (hx : w.cell? ⟨g, n, none⟩ = some (.iface t x)) :
    Calls Tryz.prog 117 #[.pointer (some ⟨M, 0, none⟩), .int .i64 n] w (RetW .nilIface (w.setCell ⟨M, 2, none⟩ (.iface t x))) := by
  go_enter Tryz.func117, Tryz.ntmps117
  go_wp2
  go_ret
  exact ⟨rfl, rfl⟩

set_option maxRecDepth 100000 in
set_option maxHeartbeats 1000000 in
theorem drop_raw (w : World) (M E : Nat) (n : Int) (q : Option Addr) (k6 : w.cell? ⟨M, 6, none⟩ = some (.pointer (some ⟨E, 0, none⟩))) (f6 : w.frozen? ⟨M, 6, none⟩ = false) (e0 : w.cell? ⟨E, 0, none⟩ = some (.pointer q)) :
    Calls Tryz.prog 123 #[.pointer (some ⟨M, 0, none⟩), .int .i64 n] w (RetW .nilIface (w.setCell ⟨M, 6, none⟩ (.pointer q))) := by
  go_enter Tryz.func123, Tryz.ntmps123
  go_wp2
  go_ret
  exact ⟨rfl, rfl⟩

set_option maxRecDepth 100000 in
set_option maxHeartbeats 1000000 in
theorem pend_deep (w : World) (M E : Nat) (n : Int) (k6 : w.cell? ⟨M, 6, none⟩ = some (.pointer (some ⟨E, 0, none⟩))) (e1 : w.cell? ⟨E, 1, none⟩ = some (.int .i64 200)) :
    Calls Tryz.prog 120 #[.pointer (some ⟨M, 0, none⟩), .int .i64 n] w (RetW (wrongV 9) w) := by
  go_enter Tryz.func120, Tryz.ntmps120
  go_wp2
  go_ret
  exact ⟨rfl, rfl⟩

set_option maxRecDepth 100000 in
set_option maxHeartbeats 1000000 in
theorem pend_raw (w : World) (M E gf : Nat) (n : Int) (d : Nat) (hd : d < 200) (hl : M < w.heap.size) (k6 : w.cell? ⟨M, 6, none⟩ = some (.pointer (some ⟨E, 0, none⟩))) (f6 : w.frozen? ⟨M, 6, none⟩ = false) (k3 : w.cell? ⟨M, 3, none⟩ = some (.pointer (some ⟨gf, 0, none⟩))) (e1 : w.cell? ⟨E, 1, none⟩ = some (.int .i64 d)) :
    Calls Tryz.prog 120 #[.pointer (some ⟨M, 0, none⟩), .int .i64 n] w (RetW .nilIface (((w.setCell ⟨M, 6, none⟩ (.pointer (some ⟨w.heap.size, 0, none⟩))).alloc (.cells #[.pointer (some ⟨E, 0, none⟩), .int .i64 ((d : Int) + 1), .pointer (some ⟨gf, 0, none⟩), .int .i64 n, .pointer none] 115)).drew)) := by
  have hne : ((d : Int) == 200) = false := by simp; omega
  go_enter Tryz.func120, Tryz.ntmps120
  go_wp2
  go_region
  go_wp2
  go_ret
  exact ⟨rfl, rfl⟩

set_option maxRecDepth 100000 in
set_option maxHeartbeats 1000000 in
theorem resume_raw (w : World) (M E gf : Nat) (n pc : Int) (old : Value) (k6 : w.cell? ⟨M, 6, none⟩ = some (.pointer (some ⟨E, 0, none⟩))) (k1 : w.cell? ⟨M, 1, none⟩ = some (.int .i64 pc)) (k3 : w.cell? ⟨M, 3, none⟩ = some old) (f1 : w.frozen? ⟨M, 1, none⟩ = false) (f3 : w.frozen? ⟨M, 3, none⟩ = false)
    (e3 : w.cell? ⟨E, 3, none⟩ = some (.int .i64 n)) (e2 : w.cell? ⟨E, 2, none⟩ = some (.pointer (some ⟨gf, 0, none⟩))) :
    Calls Tryz.prog 197 #[.pointer (some ⟨M, 0, none⟩)] w (RetW (.tuple #[]) ((w.setCell ⟨M, 1, none⟩ (.int .i64 n)).setCell ⟨M, 3, none⟩ (.pointer (some ⟨gf, 0, none⟩))).drew) := by
  go_enter Tryz.func197, Tryz.ntmps197
  go_wp2
  go_region
  go_wp2
  refine bodyPost_ret (results_none rfl _ _ _) rfl ?_
  exact ⟨rfl, rfl⟩
end Go.Proofs.YtlobegpjenabaaaGreatDoor

/- The kinds of instructions, as they walk, II: branch, back, give, stop, running, a lambda and what is to be done as procedures. -/
namespace Go.Proofs.YtlobegpjenabaaaGreatDoor
open Go.RowKit
set_option linter.unusedSimpArgs false
set_option linter.unusedVariables false

set_option maxRecDepth 100000 in
set_option maxHeartbeats 1000000 in
theorem branch_raw (w : World) (M E : Nat) (n pc : Int) (q : Option Addr) (t : TypeId) (x : Value) (r : Bool) (hME : E ≠ M) (k6 : w.cell? ⟨M, 6, none⟩ = some (.pointer (some ⟨E, 0, none⟩))) (f6 : w.frozen? ⟨M, 6, none⟩ = false) (e0 : w.cell? ⟨E, 0, none⟩ = some (.pointer q))
    (k2 : w.cell? ⟨M, 2, none⟩ = some (.iface t x)) (k1 : w.cell? ⟨M, 1, none⟩ = some (.int .i64 pc)) (f1 : w.frozen? ⟨M, 1, none⟩ = false) (hq : ∀ W, (Go.binOp .eql 81 (.iface t x) (.iface 131 (.bool false))).run Tryz.prog W = .ok (.bool r) W) :
    Calls Tryz.prog 124 #[.pointer (some ⟨M, 0, none⟩), .int .i64 n] w (RetW .nilIface (if r then (w.setCell ⟨M, 6, none⟩ (.pointer q)).setCell ⟨M, 1, none⟩ (.int .i64 n) else w.setCell ⟨M, 6, none⟩ (.pointer q))) := by
  cases r <;>
  · go_enter Tryz.func124, Tryz.ntmps124
    go_wp2
    go_ret
    exact ⟨rfl, rfl⟩

set_option maxRecDepth 100000 in
set_option maxHeartbeats 1000000 in
theorem back_raw (w : World) (M E gf : Nat) (m n pc : Int) (old : Value) (k6 : w.cell? ⟨M, 6, none⟩ = some (.pointer (some ⟨E, 0, none⟩))) (k1 : w.cell? ⟨M, 1, none⟩ = some (.int .i64 pc)) (k3 : w.cell? ⟨M, 3, none⟩ = some old) (f1 : w.frozen? ⟨M, 1, none⟩ = false) (f3 : w.frozen? ⟨M, 3, none⟩ = false)
    (e3 : w.cell? ⟨E, 3, none⟩ = some (.int .i64 n)) (e2 : w.cell? ⟨E, 2, none⟩ = some (.pointer (some ⟨gf, 0, none⟩))) :
    Calls Tryz.prog 129 #[.pointer (some ⟨M, 0, none⟩), .int .i64 m] w (RetW .nilIface ((w.setCell ⟨M, 1, none⟩ (.int .i64 n)).setCell ⟨M, 3, none⟩ (.pointer (some ⟨gf, 0, none⟩))).drew) := by
  go_enter Tryz.func129, Tryz.ntmps129
  go_wp2_with fail
  refine (resume_raw w M E gf n pc old k6 k1 k3 f1 f3 e3 e2).mono ?_
  rintro e w1 ⟨rfl, rfl⟩
  go_wp2
  go_ret
  exact ⟨rfl, rfl⟩

set_option maxRecDepth 100000 in
set_option maxHeartbeats 1000000 in
theorem give_raw (w : World) (M E gf : Nat) (n pc : Int) (t : TypeId) (x old v2 : Value) (hME : E ≠ M) (k6 : w.cell? ⟨M, 6, none⟩ = some (.pointer (some ⟨E, 0, none⟩))) (k1 : w.cell? ⟨M, 1, none⟩ = some (.int .i64 pc)) (k2 : w.cell? ⟨M, 2, none⟩ = some v2) (k3 : w.cell? ⟨M, 3, none⟩ = some old) (f1 : w.frozen? ⟨M, 1, none⟩ = false) (f2 : w.frozen? ⟨M, 2, none⟩ = false) (f3 : w.frozen? ⟨M, 3, none⟩ = false)
    (e3 : w.cell? ⟨E, 3, none⟩ = some (.int .i64 n)) (e2 : w.cell? ⟨E, 2, none⟩ = some (.pointer (some ⟨gf, 0, none⟩))) :
    Calls Tryz.prog 212 #[.pointer (some ⟨M, 0, none⟩), .iface t x] w (RetW (.tuple #[]) (((w.setCell ⟨M, 2, none⟩ (.iface t x)).setCell ⟨M, 1, none⟩ (.int .i64 n)).setCell ⟨M, 3, none⟩ (.pointer (some ⟨gf, 0, none⟩))).drew) := by
  go_enter Tryz.func212, Tryz.ntmps212
  go_wp2_with fail
  refine (resume_raw _ M E gf n pc old ((World.cell?_setCell_other _ _ _ _ (by simp)).trans k6) ((World.cell?_setCell_other _ _ _ _ (by simp)).trans k1) ((World.cell?_setCell_other _ _ _ _ (by simp)).trans k3) ((World.frozen?_setCell _ _ _ _).trans f1) ((World.frozen?_setCell _ _ _ _).trans f3) ((World.cell?_setCell_other _ _ _ _ (by simp)).trans e3) ((World.cell?_setCell_other _ _ _ _ (by simp [Ne.symm hME])).trans e2)).mono ?_
  rintro e w1 ⟨rfl, rfl⟩
  go_wp2
  refine bodyPost_ret (results_none rfl _ _ _) rfl ?_
  exact ⟨rfl, rfl⟩

set_option maxRecDepth 100000 in
set_option maxHeartbeats 1000000 in
theorem running_raw (w : World) (M : Nat) (s : Int) (k8 : w.cell? ⟨M, 8, none⟩ = some (.int .i64 s)) :
    Calls Tryz.prog 52 #[.pointer (some ⟨M, 0, none⟩)] w (RetW (.bool (s == 0)) w) := by
  go_enter Tryz.func52, Tryz.ntmps52
  go_wp2
  go_ret
  exact ⟨rfl, rfl⟩

/-- The world behind stop. -/
def stopW (w : World) (M : Nat) (st er de : Int) (va : ByteArray) : World :=
  ((((((((((w.setCell ⟨M, 8, none⟩ (.int .i64 st)).setCell ⟨M, 9, none⟩ (.int .i64 er)).setCell ⟨M, 10, none⟩ (.int .i64 de)).setCell ⟨M, 11, none⟩ (.string va)).setCell ⟨M, 1, none⟩ (.int .i64 0)).setCell ⟨M, 2, none⟩ .nilIface).setCell ⟨M, 3, none⟩ (.pointer none)).setCell ⟨M, 4, none⟩ .nilIface).setCell ⟨M, 5, none⟩ (.slice none 0 0)).setCell ⟨M, 6, none⟩ (.pointer none)).alloc (.cells #[.int .i64 st, .int .i64 er, .int .i64 de, .string va] 52)
set_option maxRecDepth 100000 in
set_option maxHeartbeats 1000000 in
theorem stop_raw (w : World) (M : Nat) (c1 c2 c3 c4 c5 c6 c8 c9 c10 c11 : Value) (st er de : Int) (va : ByteArray) (hl : M < w.heap.size)
    (k1 : w.cell? ⟨M, 1, none⟩ = some c1) (k2 : w.cell? ⟨M, 2, none⟩ = some c2) (k3 : w.cell? ⟨M, 3, none⟩ = some c3) (k4 : w.cell? ⟨M, 4, none⟩ = some c4) (k5 : w.cell? ⟨M, 5, none⟩ = some c5) (k6 : w.cell? ⟨M, 6, none⟩ = some c6)
    (k8 : w.cell? ⟨M, 8, none⟩ = some c8) (k9 : w.cell? ⟨M, 9, none⟩ = some c9) (k10 : w.cell? ⟨M, 10, none⟩ = some c10) (k11 : w.cell? ⟨M, 11, none⟩ = some c11) (hf : ∀ o, w.frozen? ⟨M, o, none⟩ = false) :
    Calls Tryz.prog 51 #[.pointer (some ⟨M, 0, none⟩), .agg #[.int .i64 st, .int .i64 er, .int .i64 de, .string va]] w (RetW (.tuple #[]) (stopW w M st er de va)) := by
  go_enter Tryz.func51, Tryz.ntmps51
  go_wp2
  refine bodyPost_ret (results_none rfl _ _ _) rfl ?_
  exact ⟨rfl, rfl⟩

set_option maxRecDepth 100000 in
set_option maxHeartbeats 1000000 in
theorem toBeDone_raw (w : World) (M : Nat) (top : Option Addr) (hl : M < w.heap.size) (k6 : w.cell? ⟨M, 6, none⟩ = some (.pointer top)) :
    Calls Tryz.prog 216 #[.pointer (some ⟨M, 0, none⟩)] w (RetW (.pointer (some ⟨w.heap.size + 2, 0, none⟩)) (((w.alloc (.cells #[.pointer (some ⟨M, 0, none⟩)] 73)).alloc (.cells #[.pointer top] 111)).alloc (.cells #[.string ⟨#[119, 104, 97, 116, 32, 99, 97, 108, 108, 47, 99, 99, 32, 103, 97, 118, 101]⟩, .int .i64 1, .func (.func 231) #[] #[.pointer (some ⟨w.heap.size + 1, 0, none⟩), .pointer (some ⟨w.heap.size, 0, none⟩)]] 220))) := by
  have hmf : ∀ (fn : Fn) (first cap : Array Value) (w : World), (Instr.makeFunc fn first cap).run Tryz.prog w = .ok (.func fn first cap) w := fun _ _ _ _ => rfl
  go_enter Tryz.func216, Tryz.ntmps216
  go_wp2
  go_ret
  exact ⟨rfl, rfl⟩
end Go.Proofs.YtlobegpjenabaaaGreatDoor

/- latheref.skip: behind spaces, newlines and comments. -/
namespace Go.Proofs.YtlobegpjenabaaaGreatDoor
open Go.RowKit

theorem drop_at (s : ByteArray) (k : Nat) (h : k < s.size) : s.data.toList.drop k = s[k] :: s.data.toList.drop (k + 1) := by
  rw [List.drop_eq_getElem_cons (by simpa using h)]; rfl
theorem drop_end (s : ByteArray) (k : Nat) (h : s.size ≤ k) : s.data.toList.drop k = [] := by
  rw [List.drop_eq_nil_iff]; simpa using h
theorem len_eq (s : ByteArray) : s.data.toList.length = s.size := by simp

def commentTo (l : List UInt8) (i : Nat) : Nat := i + skipB true (l.drop i)

theorem skip_gap (s : ByteArray) (k : Nat) (h : k < s.size) (c : s[k].toNat = 32 ∨ s[k].toNat = 10) : skipTo s.data.toList (k + 1) = skipTo s.data.toList k := by
  simp only [skipTo]; rw [drop_at s k h]; simp only [skipB]; rw [if_pos c]; omega
theorem skip_cm (s : ByteArray) (k : Nat) (h : k < s.size) (c : s[k].toNat = 59) : commentTo s.data.toList k = skipTo s.data.toList k := by
  simp only [skipTo, commentTo]; rw [drop_at s k h]; simp only [skipB]; rw [if_neg (by omega), if_neg (by omega), if_pos c]
theorem skip_no (s : ByteArray) (k : Nat) (h : k < s.size) (c1 : ¬ s[k].toNat = 32) (c2 : ¬ s[k].toNat = 10) (c3 : ¬ s[k].toNat = 59) : skipTo s.data.toList k = k := by
  simp only [skipTo]; rw [drop_at s k h]; simp only [skipB]; rw [if_neg (by omega), if_neg c3]; rfl
theorem skip_end (s : ByteArray) (k : Nat) (h : s.size ≤ k) : skipTo s.data.toList k = k := by
  simp only [skipTo]; rw [drop_end s k h]; rfl
theorem cm_go (s : ByteArray) (k : Nat) (h : k < s.size) (c : ¬ s[k].toNat = 10) : commentTo s.data.toList (k + 1) = commentTo s.data.toList k := by
  simp only [commentTo]; rw [drop_at s k h]; simp only [skipB]; rw [if_neg c]; omega

theorem skipB_le : ∀ (l : List UInt8) (b : Bool), skipB b l ≤ l.length
  | [], b => by simp [skipB]
  | c :: r, false => by
    have h1 := skipB_le r false; have h2 := skipB_le r true
    simp only [skipB, List.length_cons]; split
    · omega
    · split <;> omega
  | c :: r, true => by
    have h1 := skipB_le r false; have h2 := skipB_le r true
    simp only [skipB, List.length_cons]; split <;> omega
theorem skipTo_le (l : List UInt8) (i : Nat) (h : i ≤ l.length) : skipTo l i ≤ l.length := by
  have := skipB_le (l.drop i) false; simp at this; unfold skipTo; omega
theorem le_skipTo (l : List UInt8) (i : Nat) : i ≤ skipTo l i := by unfold skipTo; omega

end Go.Proofs.YtlobegpjenabaaaGreatDoor

/- latheref.token: what a token says. -/
namespace Go.Proofs.YtlobegpjenabaaaGreatDoor
open Go.RowKit
set_option linter.unusedSimpArgs false
set_option linter.unusedVariables false

theorem hide {p : Prop} (h : p) : Hid p := h

/-- The cells of a value of the document's answer. -/
def rcells (k n : Int) (s : ByteArray) (p : Option Addr) : Array Value := #[.int .i64 k, .int .i64 n, .string s, .pointer p, .pointer none]
def emptyB : ByteArray := ⟨#[]⟩
/-- The cells of an atom; of none (what a fault leaves): the zero ones. -/
def atomR : D → Option (Array Value)
  | .lit (.int .i64 k) => some (rcells 1 k emptyB none)
  | .lit (.bool b) => some (rcells 2 (if b then 1 else 0) emptyB none)
  | .lit (.string t) => some (rcells 3 0 ⟨t.toArray⟩ none)
  | .nil => some (rcells 0 0 emptyB none)
  | _ => none

theorem take_snoc (s : ByteArray) (k : Nat) (h : k < s.size) : s.data.toList.take (k + 1) = s.data.toList.take k ++ [s[k]] := by
  rw [List.take_succ_eq_append_getElem (by simpa using h)]; rfl

theorem sortI_one {b : Int} (h : (sortI b == 1) = true) : 48 ≤ b ∧ b ≤ 57 := by
  unfold sortI at h
  by_cases d : digB b = true
  · simp [digB] at d; omega
  · rw [if_neg d] at h; exfalso; revert h; split <;> (try split) <;> (try split) <;> simp
theorem first_at (s : ByteArray) (h0 : 0 < s.size) : s.data.toList = s[0] :: s.data.toList.drop 1 := by
  have := drop_at s 0 h0; simpa using this
theorem tok_ne (s : ByteArray) (x : List UInt8) (h : (s.toList == x) = false) : ¬ s.data.toList = x := by
  rw [ByteArray.toList_eq] at h; simpa using h
theorem tok_eq (s : ByteArray) (x : List UInt8) (h : (s.toList == x) = true) : s.data.toList = x := by
  rw [ByteArray.toList_eq] at h; simpa using h
end Go.Proofs.YtlobegpjenabaaaGreatDoor

/- The first procedures are made: their closures. -/
namespace Go.Proofs.YtlobegpjenabaaaGreatDoor
open Go.RowKit
set_option linter.unusedSimpArgs false
set_option linter.unusedVariables false

/-- A closure of a method and its machine is made: two boxes. -/
def BoxW (w : World) (M f : Nat) (T : TypeId) : World := (w.alloc (.cells #[.pointer (some ⟨M, 0, none⟩)] 73)).alloc (.cells #[.func (.func f) #[.pointer (some ⟨M, 0, none⟩)] #[]] T)
set_option maxRecDepth 100000 in
set_option maxHeartbeats 1000000 in
theorem ofInts_raw (w : World) (M f : Nat) : Calls Tryz.prog 159 #[.pointer (some ⟨M, 0, none⟩), .func (.func f) #[.pointer (some ⟨M, 0, none⟩)] #[]] w (RetW (.func (.func 211) #[] #[.pointer (some ⟨w.heap.size, 0, none⟩), .pointer (some ⟨w.heap.size + 1, 0, none⟩)]) (BoxW w M f 285)) := by
  have hmf : ∀ (fn : Fn) (first cap : Array Value) (w : World), (Instr.makeFunc fn first cap).run Tryz.prog w = .ok (.func fn first cap) w := fun _ _ _ _ => rfl
  go_enter Tryz.func159, Tryz.ntmps159
  go_wp2
  go_ret
  exact ⟨rfl, rfl⟩
set_option maxRecDepth 100000 in
set_option maxHeartbeats 1000000 in
theorem ofTwo_raw (w : World) (M f : Nat) : Calls Tryz.prog 165 #[.pointer (some ⟨M, 0, none⟩), .func (.func f) #[.pointer (some ⟨M, 0, none⟩)] #[]] w (RetW (.func (.func 213) #[] #[.pointer (some ⟨w.heap.size, 0, none⟩), .pointer (some ⟨w.heap.size + 1, 0, none⟩)]) (BoxW w M f 287)) := by
  have hmf : ∀ (fn : Fn) (first cap : Array Value) (w : World), (Instr.makeFunc fn first cap).run Tryz.prog w = .ok (.func fn first cap) w := fun _ _ _ _ => rfl
  go_enter Tryz.func165, Tryz.ntmps165
  go_wp2
  go_ret
  exact ⟨rfl, rfl⟩
set_option maxRecDepth 100000 in
set_option maxHeartbeats 1000000 in
theorem ofPair_raw (w : World) (M f : Nat) : Calls Tryz.prog 167 #[.pointer (some ⟨M, 0, none⟩), .func (.func f) #[.pointer (some ⟨M, 0, none⟩)] #[]] w (RetW (.func (.func 214) #[] #[.pointer (some ⟨w.heap.size, 0, none⟩), .pointer (some ⟨w.heap.size + 1, 0, none⟩)]) (BoxW w M f 289)) := by
  have hmf : ∀ (fn : Fn) (first cap : Array Value) (w : World), (Instr.makeFunc fn first cap).run Tryz.prog w = .ok (.func fn first cap) w := fun _ _ _ _ => rfl
  go_enter Tryz.func167, Tryz.ntmps167
  go_wp2
  go_ret
  exact ⟨rfl, rfl⟩
set_option maxRecDepth 100000 in
set_option maxHeartbeats 1000000 in
theorem ofOne_raw (w : World) (M f : Nat) : Calls Tryz.prog 170 #[.pointer (some ⟨M, 0, none⟩), .func (.func f) #[.pointer (some ⟨M, 0, none⟩)] #[]] w (RetW (.func (.func 215) #[] #[.pointer (some ⟨w.heap.size, 0, none⟩), .pointer (some ⟨w.heap.size + 1, 0, none⟩)]) (BoxW w M f 291)) := by
  have hmf : ∀ (fn : Fn) (first cap : Array Value) (w : World), (Instr.makeFunc fn first cap).run Tryz.prog w = .ok (.func fn first cap) w := fun _ _ _ _ => rfl
  go_enter Tryz.func170, Tryz.ntmps170
  go_wp2
  go_ret
  exact ⟨rfl, rfl⟩
end Go.Proofs.YtlobegpjenabaaaGreatDoor

/- Values of the document's answer in memory. -/
namespace Go.Proofs.YtlobegpjenabaaaGreatDoor
open Go.RowKit
set_option linter.unusedSimpArgs false
set_option linter.unusedVariables false

/-- All blocks that were there, but for those of S, are as they were. -/
structure Upd (S : Nat → Prop) (w w' : World) : Prop where
  os : w'.os = w.os
  tape : w'.tape = w.tape
  output : w'.output = w.output
  size : w.heap.size ≤ w'.heap.size
  block : ∀ k, k < w.heap.size → ¬ S k → w'.heap[k]? = w.heap[k]?
theorem Upd.refl (S : Nat → Prop) (w : World) : Upd S w w := ⟨rfl, rfl, rfl, Nat.le_refl _, fun _ _ _ => rfl⟩
theorem Upd.trans {S S' : Nat → Prop} {w w1 w2 : World} (h : Upd S w w1) (k : Upd S' w1 w2) (hs : ∀ j, j < w.heap.size → S' j → S j) : Upd S w w2 :=
  ⟨k.os.trans h.os, k.tape.trans h.tape, k.output.trans h.output, Nat.le_trans h.size k.size, fun j hj hn => (k.block j (Nat.lt_of_lt_of_le hj h.size) (fun x => hn (hs j hj x))).trans (h.block j hj hn)⟩
theorem Upd.of_below {w w' : World} (S : Nat → Prop) (h : Below w.heap.size w w') : Upd S w w' := ⟨h.os, h.tape, h.output, h.size, fun k hk _ => h.block k hk⟩
theorem Upd.below {S : Nat → Prop} {w w' : World} {B : Nat} (h : Upd S w w') (hB : B ≤ w.heap.size) (hS : ∀ k, S k → B ≤ k) : Below B w w' :=
  ⟨h.os, h.tape, h.output, h.size, fun k hk => h.block k (by omega) (fun x => by have := hS k x; omega)⟩
theorem Upd.mono {S S' : Nat → Prop} {w w' : World} (h : Upd S w w') (hs : ∀ j, S j → S' j) : Upd S' w w' := ⟨h.os, h.tape, h.output, h.size, fun k hk hn => h.block k hk (fun x => hn (hs k x))⟩
theorem Upd.grown {S : Nat → Prop} {w w1 w' : World} {row : Option Nat} (h : Upd S w w1) (g : w1.grownBy w' row) (hr : ∀ k, row = some k → k < w.heap.size → S k) : Upd S w w' :=
  h.trans (S' := fun k => row = some k) ⟨g.os, g.tape, g.output, g.size, fun k hk hn => g.block k hk (fun e => hn e.symm)⟩ (fun j hj hx => hr j hx hj)
theorem Upd.alloc {S : Nat → Prop} {w w1 : World} (h : Upd S w w1) (o : Obj) : Upd S w (w1.alloc o) :=
  h.trans (S' := fun _ => False) ⟨rfl, rfl, rfl, by simp, fun k hk _ => Below.heap_alloc _ _ _ hk⟩ (fun _ _ x => x.elim)
theorem Upd.setCell {S : Nat → Prop} {w w1 : World} (h : Upd S w w1) (p : Addr) (u : Value) (hp : p.block < w.heap.size → S p.block) : Upd S w (w1.setCell p u) :=
  h.trans (S' := fun k => k = p.block) ⟨rfl, rfl, rfl, by simp [World.setCell], fun k hk hn => Below.heap_setCell _ _ _ _ hn⟩ (fun j hj x => by subst x; exact hp hj)
theorem Upd.drew {S : Nat → Prop} {w w1 : World} (h : Upd S w w1) : Upd S w w1.drew := ⟨h.os, h.tape, h.output, h.size, h.block⟩
theorem Upd.drewN {S : Nat → Prop} {w w1 : World} (h : Upd S w w1) (n : Nat) : Upd S w (w1.drewN n) := ⟨h.os, h.tape, h.output, h.size, h.block⟩

/-- The pairs that were there are as they were. -/
def Keep (T : TypeId) (w w' : World) : Prop := ∀ (b : Nat) (c : Array Value), w.heap[b]? = some (Obj.cells c T (0, 0)) → w'.heap[b]? = some (Obj.cells c T (0, 0))
theorem lt_of_some {w : World} {b : Nat} {o : Obj} (h : w.heap[b]? = some o) : b < w.heap.size := by
  rcases Nat.lt_or_ge b w.heap.size with hlt | hge
  · exact hlt
  · rw [Array.getElem?_eq_none hge] at h; cases h
theorem Keep.of_upd {T : TypeId} {S : Nat → Prop} {w w' : World} (h : Upd S w w') (hs : ∀ k c, S k → ¬ w.heap[k]? = some (Obj.cells c T (0, 0))) : Keep T w w' := by
  intro b c hb
  rw [h.block b (lt_of_some hb) (fun x => hs b c x hb)]; exact hb
theorem Keep.of_below {T : TypeId} {w w' : World} (h : Below w.heap.size w w') : Keep T w w' := by
  intro b c hb
  rw [h.block b (lt_of_some hb)]; exact hb
theorem Keep.trans {T : TypeId} {a b c : World} (h : Keep T a b) (k : Keep T b c) : Keep T a c := fun x y z => k x y (h x y z)
theorem Keep.refl {T : TypeId} (a : World) : Keep T a a := fun x y z => z

/-- A list's cells; R says of an element's cells what it is. -/
def Chain (w : World) (R : Array Value → D → Prop) : Array Value → List D → Prop
  | cs, [] => cs = rcells 4 0 emptyB none
  | cs, d :: r => ∃ b c1 c2, cs = rcells 5 0 emptyB (some ⟨b, 0, none⟩) ∧ w.heap[b]? = some (Obj.cells (c1 ++ c2) 162 (0, 0)) ∧ c1.size = 5 ∧ c2.size = 5 ∧ R c1 d ∧ Chain w R c2 r
/-- The cells of a datum that is less than so deep. -/
def RV (w : World) : Nat → Array Value → D → Prop
  | 0, _, _ => False
  | n + 1, cs, .agg l => l.length ≤ 1000 ∧ Chain w (RV w n) cs l
  | _ + 1, cs, d => atomR d = some cs
def RVs (w : World) (n : Nat) : List (Array Value) → List D → Prop
  | [], [] => True
  | c :: cs, d :: ds => c.size = 5 ∧ RV w n c d ∧ RVs w n cs ds
  | _, _ => False

theorem Chain.keep {w w' : World} {R R' : Array Value → D → Prop} (k : Keep 162 w w') (hR : ∀ c d, R c d → R' c d) : ∀ (l : List D) (cs : Array Value), Chain w R cs l → Chain w' R' cs l
  | [], cs, h => h
  | d :: r, cs, ⟨b, c1, c2, e, hb, h1, h2, hd, hr⟩ => ⟨b, c1, c2, e, k _ _ hb, h1, h2, hR _ _ hd, Chain.keep k hR r c2 hr⟩
theorem RV.keep {w w' : World} (k : Keep 162 w w') : ∀ (n : Nat) (cs : Array Value) (d : D), RV w n cs d → RV w' n cs d
  | 0, _, _, h => h.elim
  | n + 1, cs, .agg l, h => ⟨h.1, Chain.keep k (RV.keep k n) l cs h.2⟩
  | n + 1, cs, .lit _, h => h
  | n + 1, cs, .nil, h => h
  | n + 1, cs, .ptr _, h => h
  | n + 1, cs, .slice _ _, h => h
  | n + 1, cs, .iface _ _, h => h
  | n + 1, cs, .map _, h => h
  | n + 1, cs, .held _, h => h
theorem RVs.keep {w w' : World} (k : Keep 162 w w') (n : Nat) : ∀ (cs : List (Array Value)) (ds : List D), RVs w n cs ds → RVs w' n cs ds
  | [], [], h => h
  | c :: cs, d :: ds, h => ⟨h.1, RV.keep k n c d h.2.1, RVs.keep k n cs ds h.2.2⟩
  | [], _ :: _, h => h.elim
  | _ :: _, [], h => h.elim
theorem Chain.mono {w : World} {R R' : Array Value → D → Prop} (hR : ∀ c d, R c d → R' c d) (l : List D) (cs : Array Value) (h : Chain w R cs l) : Chain w R' cs l := Chain.keep (Keep.refl w) hR l cs h
theorem RV.up {w : World} : ∀ (n : Nat) (cs : Array Value) (d : D), RV w n cs d → RV w (n + 1) cs d
  | 0, _, _, h => h.elim
  | n + 1, cs, .agg l, h => ⟨h.1, Chain.mono (RV.up n) l cs h.2⟩
  | n + 1, cs, .lit _, h => h
  | n + 1, cs, .nil, h => h
  | n + 1, cs, .ptr _, h => h
  | n + 1, cs, .slice _ _, h => h
  | n + 1, cs, .iface _ _, h => h
  | n + 1, cs, .map _, h => h
  | n + 1, cs, .held _, h => h
theorem RVs.length {w : World} {n : Nat} : ∀ {cs : List (Array Value)} {ds : List D}, RVs w n cs ds → cs.length = ds.length
  | [], [], _ => rfl
  | c :: cs, d :: ds, h => by simp [RVs.length h.2.2]
  | [], _ :: _, h => h.elim
  | _ :: _, [], h => h.elim
theorem RVs.append {w : World} {n : Nat} : ∀ {cs : List (Array Value)} {ds : List D} {cs' : List (Array Value)} {ds' : List D}, RVs w n cs ds → RVs w n cs' ds' → RVs w n (cs ++ cs') (ds ++ ds')
  | [], [], _, _, _, h' => h'
  | c :: cs, d :: ds, _, _, h, h' => ⟨h.1, h.2.1, RVs.append h.2.2 h'⟩
  | [], _ :: _, _, _, h, _ => h.elim
  | _ :: _, [], _, _, h, _ => h.elim
/-- The cells of a row of values, one behind the other. -/
def flat (css : List (Array Value)) : List Value := css.flatMap Array.toList
/-- Every value's cells are five, each one cell. -/
theorem RV.form {w : World} : ∀ (n : Nat) (cs : Array Value) (d : D), RV w n cs d → ∃ k m s p, cs = rcells k m s p
  | 0, _, _, h => h.elim
  | n + 1, cs, .agg [], h => ⟨_, _, _, _, h.2⟩
  | n + 1, cs, .agg (_ :: _), h => by obtain ⟨b, c1, c2, e, _⟩ := h.2; exact ⟨_, _, _, _, e⟩
  | n + 1, cs, .lit (.int k m), h => by
    cases k <;> first | (cases h; done) | (have h : some _ = some cs := h; cases h; exact ⟨_, _, _, _, rfl⟩)
  | n + 1, cs, .lit (.bool _), h => by have h : some _ = some cs := h; cases h; exact ⟨_, _, _, _, rfl⟩
  | n + 1, cs, .lit (.string _), h => by have h : some _ = some cs := h; cases h; exact ⟨_, _, _, _, rfl⟩
  | n + 1, cs, .lit (.float _ _), h => by cases h
  | n + 1, cs, .lit .nil, h => by cases h
  | n + 1, cs, .nil, h => by have h : some _ = some cs := h; cases h; exact ⟨_, _, _, _, rfl⟩
  | n + 1, cs, .ptr _, h => by cases h
  | n + 1, cs, .slice _ _, h => by cases h
  | n + 1, cs, .iface _ _, h => by cases h
  | n + 1, cs, .map _, h => by cases h
  | n + 1, cs, .held _, h => by cases h

end Go.Proofs.YtlobegpjenabaaaGreatDoor

/- latheref: wrong, List, Items. -/
namespace Go.Proofs.YtlobegpjenabaaaGreatDoor
open Go.RowKit
set_option linter.unusedSimpArgs false
set_option linter.unusedVariables false

/-- A cursor in memory. -/
def cur (s : ByteArray) (i e a : Int) : Obj := .cells #[.string s, .int .i64 i, .int .i64 e, .int .i64 a] 154 (0, 0)

theorem cell_of_block {w : World} {b : Nat} {c : Array Value} {T : TypeId} {fz : Nat × Nat} (h : w.heap[b]? = some (Obj.cells c T fz)) (o : Nat) : w.cell? ⟨b, o, none⟩ = c[o]? := by simp [World.cell?, h]
theorem frozen_of_block {w : World} {b : Nat} {c : Array Value} {T : TypeId} (h : w.heap[b]? = some (Obj.cells c T (0, 0))) (o : Nat) : w.frozen? ⟨b, o, none⟩ = false := by simp [World.frozen?, h]
theorem heap_setCell_same {w : World} {b o : Nat} {c : Array Value} {T : TypeId} {fz : Nat × Nat} {v : Value} (h : w.heap[b]? = some (Obj.cells c T fz)) : (w.setCell ⟨b, o, none⟩ v).heap[b]? = some (Obj.cells (c.setIfInBounds o v) T fz) := by
  simp only [World.setCell, Array.getElem?_modify]
  simp [h]
theorem heap_alloc_lt {w : World} {o : Obj} {b : Nat} {x : Obj} (h : w.heap[b]? = some x) : (w.alloc o).heap[b]? = some x := by
  rw [Below.heap_alloc _ _ _ (lt_of_some h)]; exact h

/-- A row of values in memory, with its cells. -/
def Row5 (B : Nat) (w : World) (v : Value) (css : List (Array Value)) : Prop := w.ownsRow B 96 5 v css.length (flat css)

theorem ownsRow_cell {w : World} {base e size n : Nat} {v : Value} {xs : List Value} (h : w.ownsRow base e size v n xs) (hn : 0 < n) : ∃ g cap, v = .slice (some ⟨g, 0, none⟩) n cap ∧ base ≤ g ∧ g < w.heap.size ∧ n ≤ cap ∧ cap ≤ maxLen ∧ ∀ (j : Nat) u, xs[j]? = some u → w.cell? ⟨g, j, none⟩ = some u := by
  obtain ⟨hx, h⟩ := h
  rcases h with ⟨_, h0⟩ | ⟨g, cap, cu, hv, hb, hg, h1, h2, h3, h4⟩
  · omega
  · refine ⟨g, cap, hv, hb, lt_of_some hg, h1, h2, fun j u hj => ?_⟩
    rw [cell_of_block hg]
    rw [← h4] at hj
    rw [List.getElem?_take] at hj
    split at hj
    · simpa using hj
    · cases hj

theorem ownsRow_slice {w : World} {base e size n : Nat} {v : Value} {xs : List Value} (h : w.ownsRow base e size v n xs) : ∃ a cap, v = .slice a n cap ∧ n ≤ cap ∧ cap ≤ maxLen ∧ (0 < n → ∃ g, a = some ⟨g, 0, none⟩ ∧ base ≤ g ∧ g < w.heap.size ∧ ∀ (j : Nat) u, xs[j]? = some u → w.cell? ⟨g, j, none⟩ = some u) := by
  rcases Nat.eq_zero_or_pos n with h0 | hp
  · subst h0
    rcases h.2 with ⟨hv, _⟩ | ⟨g, cap, cu, hv, hb, hg, h1, h2, h3, h4⟩
    · exact ⟨none, 0, hv, Nat.le_refl _, Nat.zero_le _, fun h => absurd h (by omega)⟩
    · exact ⟨_, cap, hv, h1, h2, fun h => absurd h (by omega)⟩
  · obtain ⟨g, cap, hv, hb, hg, h1, h2, h3⟩ := ownsRow_cell h hp
    exact ⟨_, cap, hv, h1, h2, fun _ => ⟨g, rfl, hb, hg, h3⟩⟩

theorem Chain.form {w : World} {R : Array Value → D → Prop} : ∀ {l : List D} {cs : Array Value}, Chain w R cs l → ∃ k m s p, cs = rcells k m s p
  | [], cs, h => ⟨_, _, _, _, h⟩
  | _ :: _, cs, h => by obtain ⟨b, c1, c2, e, _⟩ := h; exact ⟨_, _, _, _, e⟩

theorem Upd.at {S : Nat → Prop} {w w' : World} (h : Upd S w w') {k : Nat} {o : Obj} (hk : w.heap[k]? = some o) (hn : ¬ S k) : w'.heap[k]? = some o := by rw [h.block k (lt_of_some hk) hn]; exact hk

theorem drop_cons {α : Type} (l : List α) (k : Nat) (h : k < l.length) : l.drop k = l[k] :: l.drop (k + 1) := List.drop_eq_getElem_cons h

end Go.Proofs.YtlobegpjenabaaaGreatDoor

/- latheref.Items. -/
namespace Go.Proofs.YtlobegpjenabaaaGreatDoor
open Go.RowKit
set_option linter.unusedSimpArgs false
set_option linter.unusedVariables false

theorem Row5.nil (B : Nat) (w : World) : Row5 B w (.slice none 0 0) [] := World.ownsRow_nil _ _ _ _

theorem ownsRow_of_upd {w w' : World} {S : Nat → Prop} {base e size n : Nat} {v : Value} {xs : List Value} (h : w.ownsRow base e size v n xs) (hu : Upd S w w') (hs : ∀ g, v.ownBlock = some g → ¬ S g) : w'.ownsRow base e size v n xs := by
  obtain ⟨h1, h2⟩ := h
  refine ⟨h1, ?_⟩
  rcases h2 with h2 | ⟨g, cap, cu, hv, hg, hh, r⟩
  · exact Or.inl h2
  · exact Or.inr ⟨g, cap, cu, hv, hg, hu.at hh (hs g (by rw [hv]; rfl)), r⟩
theorem ownsRow_ge {w : World} {base e size n : Nat} {v : Value} {xs : List Value} (h : w.ownsRow base e size v n xs) {g : Nat} (hg : v.ownBlock = some g) : base ≤ g ∧ g < w.heap.size := by
  rcases h.2 with ⟨hv, _⟩ | ⟨g', cap, cu, hv, hb, hh, r⟩
  · rw [hv] at hg; cases hg
  · rw [hv] at hg; cases hg; exact ⟨hb, lt_of_some hh⟩
theorem ownsRow_base {w : World} {base b' e size n : Nat} {v : Value} {xs : List Value} (h : w.ownsRow base e size v n xs) (hb : b' ≤ base) : w.ownsRow b' e size v n xs := by
  obtain ⟨h1, h2⟩ := h
  refine ⟨h1, ?_⟩
  rcases h2 with h2 | ⟨g, cap, cu, hv, hg, r⟩
  · exact Or.inl h2
  · exact Or.inr ⟨g, cap, cu, hv, Nat.le_trans hb hg, r⟩
theorem items_upd {w w1 : World} {o : Obj} {row : Option Nat} (h : (w.alloc o).grownBy w1 row) : Upd (fun k => row = some k) w w1 := Upd.grown ((Upd.refl _ w).alloc o) h (fun k hk _ => hk)

def lenOf : Value → Nat | .slice _ n _ => n | _ => 0
theorem ownsRow_len {w : World} {base e size n : Nat} {v : Value} {xs : List Value} (h : w.ownsRow base e size v n xs) : lenOf v = n := by
  rcases h.2 with ⟨hv, h0⟩ | ⟨g', cap, cu, hv, r⟩
  · rw [hv, h0]; rfl
  · rw [hv]; rfl
end Go.Proofs.YtlobegpjenabaaaGreatDoor
