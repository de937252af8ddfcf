/- The plain functions that the document's answer computes: bytes, tokens, data, forms. No program text is named here. -/
import GoSem.ClaimWide
import Derived.Test.YtlobegpjenabaaaGreatDoorProg
import Derived.WalkKit
import Derived.WalkSpells
import Derived.WalkLawsBesides
import Derived.Deep.QuietTactic
import Derived.BigQuiet
import Derived.RegionTactic
namespace Go.Proofs.YtlobegpjenabaaaGreatDoor
open Go

/-- A datum: an int, a bool, a symbol (.lit), a list (.agg). -/
abbrev D := DataW Unit
def sym (s : List UInt8) : D := .lit (.string s)
def num (k : Int) : D := .lit (.int .i64 k)
def boo (b : Bool) : D := .lit (.bool b)
def lst (l : List D) : D := .agg l
/-- the name quote -/
def qsym : List UInt8 := [113, 117, 111, 116, 101]

/-- A digit. -/
def digB (b : Int) : Bool := decide (48 ≤ b) && decide (b ≤ 57)
def lowB (b : Int) : Bool := decide (97 ≤ b) && decide (b ≤ 122)
def signs : List Int := [43, 45, 42, 47, 60, 62, 61, 63, 33]
/-- The sort of a byte: 1 a digit, 2 a letter or sign, 3 the hash, 0 none. -/
def sortI (b : Int) : Int := if digB b then 1 else if lowB b then 2 else if b == 35 then 3 else if signs.contains b then 2 else 0
def sortU (c : UInt8) : Int := sortI c.toNat

/-- How many bytes of spaces, newlines and comments stand first; the bool: within a comment. -/
def skipB : Bool → List UInt8 → Nat
  | _, [] => 0
  | false, c :: r => if c.toNat = 32 ∨ c.toNat = 10 then skipB false r + 1 else if c.toNat = 59 then skipB true r + 1 else 0
  | true, c :: r => if c.toNat = 10 then skipB false r + 1 else skipB true r + 1
/-- The place behind them, from place i on. -/
def skipTo (l : List UInt8) (i : Nat) : Nat := i + skipB false (l.drop i)

/-- How many bytes of tokens stand first. -/
def tokN : List UInt8 → Nat
  | [] => 0
  | c :: r => if sortU c = 0 then 0 else tokN r + 1
def tokEnd (l : List UInt8) (i : Nat) : Nat := i + tokN (l.drop i)

/-- The number of these digits, behind the number a. -/
def valF (a : Int) : List UInt8 → Int
  | [] => a
  | c :: r => valF (10 * a + (c.toNat - 48 : Int)) r
def val (l : List UInt8) : Int := valF 0 l

def minus (t : List UInt8) : Bool := match t with | c :: _ => c.toNat == 45 | [] => false
/-- What stands behind a minus sign, or all. -/
def body (t : List UInt8) : List UInt8 := if minus t then t.tail else t
def digits (t : List UInt8) : Bool := !t.isEmpty && t.all fun c => sortU c == 1
def hashed (t : List UInt8) : Bool := t.any fun c => sortU c == 3
def first1 (t : List UInt8) : Bool := match t with | c :: _ => sortU c == 1 | [] => false
/-- What a token says; none: it can't stand anywhere. -/
def tokD (t : List UInt8) : Option D :=
  if t = [35, 116] then some (boo true) else if t = [35, 102] then some (boo false)
  else if digits (body t) then (if 18 < (body t).length then none else some (num (if minus t then -(val (body t)) else val (body t))))
  else if first1 t || hashed t then none else some (sym t)

/-- What is wrong, and where; or a result. -/
abbrev Res (α : Type) := Sum (Int × Nat) α

/-- A datum from place i on, within so many that are open ('none'), or a list's rest behind the data acc ('some acc'): by descent. -/
def rd : Nat → List UInt8 → Nat → Nat → Option (List D) → Res (D × Nat)
  | 0, _, _, _, _ => .inl (0, 0)
  | n + 1, l, op, i, none =>
    if (l.getD i 0).toNat = 41 then .inl (2, i)
    else if (l.getD i 0).toNat = 40 then (if 20 ≤ op then .inl (3, i) else rd n l (op + 1) (i + 1) (some []))
    else if (l.getD i 0).toNat = 39 then
      (if 20 ≤ op then .inl (3, i) else if skipTo l (i + 1) = l.length then .inl (2, l.length) else
        match rd n l (op + 1) (skipTo l (i + 1)) none with
        | .inl e => .inl e
        | .inr (d, k) => .inr (lst [sym qsym, d], k))
    else if tokEnd l i = i then .inl (2, i)
    else match tokD ((l.drop i).take (tokEnd l i - i)) with
      | none => .inl (2, i)
      | some d => .inr (d, tokEnd l i)
  | n + 1, l, op, i, some acc =>
    if skipTo l i = l.length then .inl (2, l.length)
    else if (l.getD (skipTo l i) 0).toNat = 41 then .inr (lst acc, skipTo l i + 1)
    else match rd n l op (skipTo l i) none with
      | .inl e => .inl e
      | .inr (d, k) => rd n l op k (some (acc ++ [d]))

/-- All data of a text. -/
def readS : Nat → List UInt8 → Nat → List D → Res (List D)
  | 0, _, _, acc => .inr acc
  | n + 1, l, i, acc =>
    if skipTo l i = l.length then .inr acc
    else match rd (2 * l.length + 2) l 0 (skipTo l i) none with
      | .inl e => .inl e
      | .inr (d, k) => readS n l k (acc ++ [d])

/-- The seven keywords. -/
def kws : List (List UInt8) := [[113, 117, 111, 116, 101], [105, 102], [100, 101, 102, 105, 110, 101], [115, 101, 116, 33], [108, 97, 109, 98, 100, 97], [98, 101, 103, 105, 110], [108, 101, 116]]
def kwB (s : List UInt8) : Bool := kws.contains s
def varD : D → Bool
  | .lit (.string s) => !kwB s
  | _ => false
def nameD : D → List UInt8
  | .lit (.string s) => s
  | _ => []
/-- Variables, no two the same; behind those that are there. -/
def varsL : List (List UInt8) → List D → Bool
  | _, [] => true
  | seen, d :: r => varD d && !seen.contains (nameD d) && varsL (seen ++ [nameD d]) r
def isList : D → Bool
  | .agg _ => true
  | _ => false
def itemsD : D → List D
  | .agg l => l
  | _ => []
/-- The keyword of a list, or nothing. -/
def headK : List D → List UInt8
  | .lit (.string s) :: _ => if kwB s then s else []
  | _ => []
def bindL (f : D → Bool) : List (List UInt8) → List D → Bool
  | _, [] => true
  | seen, b :: r => isList b && decide ((itemsD b).length = 2) && f ((itemsD b).getD 1 (lst [])) && bindL f seen r

/-- Is it an expression? The number: more than it is deep. -/
def exprF : Nat → D → Bool
  | 0, _ => false
  | n + 1, .agg l =>
    if headK l = [113, 117, 111, 116, 101] then decide (l.length = 2)
    else if headK l = [105, 102] then (decide (l.length = 3) || decide (l.length = 4)) && l.tail.all (exprF n)
    else if headK l = [115, 101, 116, 33] then decide (l.length = 3) && varD (l.getD 1 (lst [])) && (l.drop 2).all (exprF n)
    else if headK l = [108, 97, 109, 98, 100, 97] then decide (3 ≤ l.length) && isList (l.getD 1 (num 0)) && varsL [] (itemsD (l.getD 1 (num 0))) && (l.drop 2).all (exprF n)
    else if headK l = [98, 101, 103, 105, 110] then decide (2 ≤ l.length) && l.tail.all (exprF n)
    else if headK l = [100, 101, 102, 105, 110, 101] then
      (if 3 ≤ l.length ∧ 0 < (itemsD (l.getD 1 (num 0))).length
       then varD ((itemsD (l.getD 1 (num 0))).getD 0 (num 0)) && varsL [] (itemsD (l.getD 1 (num 0))).tail && (l.drop 2).all (exprF n)
       else decide (l.length = 3) && varD (l.getD 1 (lst [])) && (l.drop 2).all (exprF n))
    else if headK l = [108, 101, 116] then
      decide (3 ≤ l.length) && isList (l.getD 1 (num 0)) && bindL (exprF n) [] (itemsD (l.getD 1 (num 0))) && varsL [] ((itemsD (l.getD 1 (num 0))).map fun b => (itemsD b).getD 0 (num 0)) && (l.drop 2).all (exprF n)
    else !l.isEmpty && l.all (exprF n)
  | _ + 1, .lit (.string s) => !kwB s
  | _ + 1, _ => true

/-- The first form that is none, from number i on. -/
def badAt (n : Nat) : Nat → List D → Option Nat
  | _, [] => none
  | i, d :: r => if exprF n d then badAt n (i + 1) r else some i

/-- P3: what is wrong with a text, and where. -/
def compS (l : List UInt8) : Int × Int :=
  if 1000 < l.length then (1, 1000)
  else match readS (l.length + 1) l 0 [] with
    | .inl (e, a) => (e, a)
    | .inr f => match badAt 21 0 f with
      | some i => (4, i)
      | none => (0, 0)

end Go.Proofs.YtlobegpjenabaaaGreatDoor

/- The smallest functions: what a byte is; what is skipped. -/
namespace Go.Proofs.YtlobegpjenabaaaGreatDoor
open Go.RowKit

theorem ret_int {k : IntKind} {a b : Int} (h : a = b) : Ending.returned (.int k a) = .returned (.int k b) := by rw [h]
theorem ret_bool {a b : Bool} (h : a = b) : Ending.returned (.bool a) = .returned (.bool b) := by rw [h]

set_option maxHeartbeats 400000 in
theorem isDigit_any (b : Int) (w : World) :
    Calls Tryz.prog 199 #[.int .u8 b] w fun e w' => e = .returned (.bool (digB b)) ∧ w' = w := by
  by_cases h1 : 48 ≤ b <;> by_cases h2 : b ≤ 57 <;>
  · go_enter Tryz.func199, Tryz.ntmps199
    go_wp2
    go_ret
    exact ⟨by simp [digB, h1, h2], rfl⟩

/-- No sign ahead of number k is b. -/
def noSign (b : Int) (k : Nat) : Bool := (signs.take k).all fun x => !(x == b)

theorem sortI_no (b : Int) (h1 : digB b = false) (h2 : lowB b = false) (h3 : (b == 35) = false) (h : noSign b 9 = true) : sortI b = 0 := by
  simp [noSign, signs] at h
  simp [sortI, h1, h2, h3, signs]
  omega
theorem sortI_yes (b : Int) (h1 : digB b = false) (h2 : lowB b = false) (h3 : (b == 35) = false) (this : b ∈ signs) : sortI b = 2 := by
  simp [sortI, h1, h2, h3, this]
theorem noSign_step (b : Int) (k : Nat) (x : Int) (hx : signs[k]? = some x) (h : noSign b k = true) (hne : (x == b) = false) : noSign b (k + 1) = true := by
  unfold noSign at *
  rw [List.take_add_one, List.all_append, h, hx]
  simp [hne]

set_option maxHeartbeats 2000000 in
theorem sort_any (b : Int) (w : World) :
    Calls Tryz.prog 107 #[.int .u8 b] w fun e w' => e = .returned (.int .i64 (sortI b)) ∧ w' = w := by
  by_cases h1 : 48 ≤ b ∧ b ≤ 57
  · obtain ⟨h1, h2⟩ := h1
    go_enter Tryz.func107, Tryz.ntmps107
    go_wp2
    go_ret
    exact ⟨by simp [sortI, digB, h1, h2], rfl⟩
  have d1 : digB b = false := by simp [digB]; omega
  by_cases h2 : 97 ≤ b ∧ b ≤ 122
  · obtain ⟨h3, h4⟩ := h2
    have h5 : ¬ b ≤ 57 := by omega
    go_enter Tryz.func107, Tryz.ntmps107
    go_wp2
    go_ret
    exact ⟨by simp [sortI, d1, lowB, h3, h4], rfl⟩
  have d2 : lowB b = false := by simp [lowB]; omega
  by_cases h5 : b = 35
  · subst h5
    go_enter Tryz.func107, Tryz.ntmps107
    go_wp2
    go_ret
    exact ⟨by simp [sortI, digB, lowB], rfl⟩
  have d3 : (b == 35) = false := by simpa using h5
  clear h5
  have HN := sortI_no b d1 d2 d3
  have HY := sortI_yes b d1 d2 d3
  have K1 : Hid (noSign b 9 = true → sortI b = 0) := HN
  have K2 : Hid (b ∈ signs → sortI b = 2) := HY
  clear HN HY d1 d2
  by_cases g1 : 48 ≤ b <;> by_cases g2 : 97 ≤ b
  all_goals try (have g3 : ¬ b ≤ 57 := by omega)
  all_goals try (have g4 : ¬ b ≤ 122 := by omega)
  all_goals try omega
  all_goals
    go_enter Tryz.func107, Tryz.ntmps107
    go_wp2
    go_loop [4] (fun i => ∃ k : Nat, k ≤ 9 ∧ i = .int .i64 k ∧ noSign b k = true) (fun i => 9 - (intOf i).toNat)
    case atStart => exact ⟨0, Nat.zero_le _, rfl, rfl⟩
    case round =>
      obtain ⟨k, hk, rfl, hn⟩ := hrel
      have H : Hid (noSign b k = true) := hn
      clear hn
      have hk : k = 0 ∨ k = 1 ∨ k = 2 ∨ k = 3 ∨ k = 4 ∨ k = 5 ∨ k = 6 ∨ k = 7 ∨ k = 8 ∨ k = 9 := by omega
      rcases hk with rfl | rfl | rfl | rfl | rfl | rfl | rfl | rfl | rfl | rfl
      all_goals go_wp2
      all_goals first
        | (go_round
           case rel => exact ⟨_ + 1, by decide, rfl, noSign_step b _ _ (by rfl) H.out (by assumption)⟩
           case measure => simp [intOf])
        | (go_ret
           exact ⟨ret_int (K1.out H.out).symm, rfl⟩)
        | (have hy := beq_iff_eq.1 (by assumption)
           go_ret
           exact ⟨ret_int (K2.out (by rw [← hy]; decide)).symm, rfl⟩)
end Go.Proofs.YtlobegpjenabaaaGreatDoor

/- The kinds of instructions, as they walk, I: those that call nothing much. -/
namespace Go.Proofs.YtlobegpjenabaaaGreatDoor
open Go.RowKit
set_option linter.unusedSimpArgs false
set_option linter.unusedVariables false

/-- A call hands v back, and leaves the world W. -/
def RetW (v : Value) (W : World) (e : Ending) (w' : World) : Prop := e = .returned v ∧ w' = W
/-- What goes wrong, as a value of error. -/
def wrongV (k : Int) : Value := .iface 107 (.agg #[.int .i64 k])

set_option maxRecDepth 100000 in
set_option maxHeartbeats 1000000 in
theorem form_raw (w : World) (M gf : Nat) (n : Int) (v6 : Value) (hl : M < w.heap.size) (k3 : w.cell? ⟨M, 3, none⟩ = some (.pointer (some ⟨gf, 0, none⟩))) (k6 : w.cell? ⟨M, 6, none⟩ = some v6) (f6 : w.frozen? ⟨M, 6, none⟩ = false) :
    Calls Tryz.prog 116 #[.pointer (some ⟨M, 0, none⟩), .int .i64 n] w (RetW .nilIface ((w.setCell ⟨M, 6, none⟩ (.pointer (some ⟨w.heap.size, 0, none⟩))).alloc (.cells #[.pointer none, .int .i64 0, .pointer (some ⟨gf, 0, none⟩), .int .i64 n, .pointer none] 115))) := by
  go_enter Tryz.func116, Tryz.ntmps116
  go_wp2
  go_ret
  exact ⟨rfl, rfl⟩

set_option maxRecDepth 100000 in
set_option maxHeartbeats 1000000 in
theorem constant_raw (w : World) (M b g len cap : Nat) (n : Nat) (t : TypeId) (x v2 : Value) (k0 : w.cell? ⟨M, 0, none⟩ = some (.pointer (some ⟨b, 0, none⟩))) (k2 : w.cell? ⟨M, 2, none⟩ = some v2) (f2 : w.frozen? ⟨M, 2, none⟩ = false)
    (b1 : w.cell? ⟨b, 1, none⟩ = some (.slice (some ⟨g, 0, none⟩) len cap)) (hn : n < len) (hl : len ≤ 1000000) (hx : w.cell? ⟨g, n, none⟩ = some (.iface t x)) :
    Calls Tryz.prog 117 #[.pointer (some ⟨M, 0, none⟩), .int .i64 n] w (RetW .nilIface (w.setCell ⟨M, 2, none⟩ (.iface t x))) := by
  go_enter Tryz.func117, Tryz.ntmps117
  go_wp2
  go_ret
  exact ⟨rfl, rfl⟩

set_option maxRecDepth 100000 in
set_option maxHeartbeats 1000000 in
theorem drop_raw (w : World) (M E : Nat) (n : Int) (q : Option Addr) (k6 : w.cell? ⟨M, 6, none⟩ = some (.pointer (some ⟨E, 0, none⟩))) (f6 : w.frozen? ⟨M, 6, none⟩ = false) (e0 : w.cell? ⟨E, 0, none⟩ = some (.pointer q)) :
    Calls Tryz.prog 123 #[.pointer (some ⟨M, 0, none⟩), .int .i64 n] w (RetW .nilIface (w.setCell ⟨M, 6, none⟩ (.pointer q))) := by
  go_enter Tryz.func123, Tryz.ntmps123
  go_wp2
  go_ret
  exact ⟨rfl, rfl⟩

set_option maxRecDepth 100000 in
set_option maxHeartbeats 1000000 in
theorem pend_deep (w : World) (M E : Nat) (n : Int) (k6 : w.cell? ⟨M, 6, none⟩ = some (.pointer (some ⟨E, 0, none⟩))) (e1 : w.cell? ⟨E, 1, none⟩ = some (.int .i64 200)) :
    Calls Tryz.prog 120 #[.pointer (some ⟨M, 0, none⟩), .int .i64 n] w (RetW (wrongV 9) w) := by
  go_enter Tryz.func120, Tryz.ntmps120
  go_wp2
  go_ret
  exact ⟨rfl, rfl⟩

set_option maxRecDepth 100000 in
set_option maxHeartbeats 1000000 in
theorem pend_raw (w : World) (M E gf : Nat) (n : Int) (d : Nat) (hd : d < 200) (hl : M < w.heap.size) (k6 : w.cell? ⟨M, 6, none⟩ = some (.pointer (some ⟨E, 0, none⟩))) (f6 : w.frozen? ⟨M, 6, none⟩ = false) (k3 : w.cell? ⟨M, 3, none⟩ = some (.pointer (some ⟨gf, 0, none⟩))) (e1 : w.cell? ⟨E, 1, none⟩ = some (.int .i64 d)) :
    Calls Tryz.prog 120 #[.pointer (some ⟨M, 0, none⟩), .int .i64 n] w (RetW .nilIface (((w.setCell ⟨M, 6, none⟩ (.pointer (some ⟨w.heap.size, 0, none⟩))).alloc (.cells #[.pointer (some ⟨E, 0, none⟩), .int .i64 ((d : Int) + 1), .pointer (some ⟨gf, 0, none⟩), .int .i64 n, .pointer none] 115)).drew)) := by
  have hne : ((d : Int) == 200) = false := by simp; omega
  go_enter Tryz.func120, Tryz.ntmps120
  go_wp2
  go_region
  go_wp2
  go_ret
  exact ⟨rfl, rfl⟩

set_option maxRecDepth 100000 in
set_option maxHeartbeats 1000000 in
theorem resume_raw (w : World) (M E gf : Nat) (n pc : Int) (old : Value) (k6 : w.cell? ⟨M, 6, none⟩ = some (.pointer (some ⟨E, 0, none⟩))) (k1 : w.cell? ⟨M, 1, none⟩ = some (.int .i64 pc)) (k3 : w.cell? ⟨M, 3, none⟩ = some old) (f1 : w.frozen? ⟨M, 1, none⟩ = false) (f3 : w.frozen? ⟨M, 3, none⟩ = false)
    (e3 : w.cell? ⟨E, 3, none⟩ = some (.int .i64 n)) (e2 : w.cell? ⟨E, 2, none⟩ = some (.pointer (some ⟨gf, 0, none⟩))) :
    Calls Tryz.prog 197 #[.pointer (some ⟨M, 0, none⟩)] w (RetW (.tuple #[]) ((w.setCell ⟨M, 1, none⟩ (.int .i64 n)).setCell ⟨M, 3, none⟩ (.pointer (some ⟨gf, 0, none⟩))).drew) := by
  go_enter Tryz.func197, Tryz.ntmps197
  go_wp2
  go_region
  go_wp2
  refine bodyPost_ret (results_none rfl _ _ _) rfl ?_
  exact ⟨rfl, rfl⟩
end Go.Proofs.YtlobegpjenabaaaGreatDoor

/- The kinds of instructions, as they walk, II: branch, back, give, stop, running, a lambda and what is to be done as procedures. -/
namespace Go.Proofs.YtlobegpjenabaaaGreatDoor
open Go.RowKit
set_option linter.unusedSimpArgs false
set_option linter.unusedVariables false

set_option maxRecDepth 100000 in
set_option maxHeartbeats 1000000 in
theorem branch_raw (w : World) (M E : Nat) (n pc : Int) (q : Option Addr) (t : TypeId) (x : Value) (r : Bool) (hME : E ≠ M) (k6 : w.cell? ⟨M, 6, none⟩ = some (.pointer (some ⟨E, 0, none⟩))) (f6 : w.frozen? ⟨M, 6, none⟩ = false) (e0 : w.cell? ⟨E, 0, none⟩ = some (.pointer q))
    (k2 : w.cell? ⟨M, 2, none⟩ = some (.iface t x)) (k1 : w.cell? ⟨M, 1, none⟩ = some (.int .i64 pc)) (f1 : w.frozen? ⟨M, 1, none⟩ = false) (hq : ∀ W, (Go.binOp .eql 81 (.iface t x) (.iface 131 (.bool false))).run Tryz.prog W = .ok (.bool r) W) :
    Calls Tryz.prog 124 #[.pointer (some ⟨M, 0, none⟩), .int .i64 n] w (RetW .nilIface (if r then (w.setCell ⟨M, 6, none⟩ (.pointer q)).setCell ⟨M, 1, none⟩ (.int .i64 n) else w.setCell ⟨M, 6, none⟩ (.pointer q))) := by
  cases r <;>
  · go_enter Tryz.func124, Tryz.ntmps124
    go_wp2
    go_ret
    exact ⟨rfl, rfl⟩

set_option maxRecDepth 100000 in
set_option maxHeartbeats 1000000 in
theorem back_raw (w : World) (M E gf : Nat) (m n pc : Int) (old : Value) (k6 : w.cell? ⟨M, 6, none⟩ = some (.pointer (some ⟨E, 0, none⟩))) (k1 : w.cell? ⟨M, 1, none⟩ = some (.int .i64 pc)) (k3 : w.cell? ⟨M, 3, none⟩ = some old) (f1 : w.frozen? ⟨M, 1, none⟩ = false) (f3 : w.frozen? ⟨M, 3, none⟩ = false)
    (e3 : w.cell? ⟨E, 3, none⟩ = some (.int .i64 n)) (e2 : w.cell? ⟨E, 2, none⟩ = some (.pointer (some ⟨gf, 0, none⟩))) :
    Calls Tryz.prog 129 #[.pointer (some ⟨M, 0, none⟩), .int .i64 m] w (RetW .nilIface ((w.setCell ⟨M, 1, none⟩ (.int .i64 n)).setCell ⟨M, 3, none⟩ (.pointer (some ⟨gf, 0, none⟩))).drew) := by
  go_enter Tryz.func129, Tryz.ntmps129
  go_wp2_with fail
  refine (resume_raw w M E gf n pc old k6 k1 k3 f1 f3 e3 e2).mono ?_
  rintro e w1 ⟨rfl, rfl⟩
  go_wp2
  go_ret
  exact ⟨rfl, rfl⟩

set_option maxRecDepth 100000 in
set_option maxHeartbeats 1000000 in
theorem give_raw (w : World) (M E gf : Nat) (n pc : Int) (t : TypeId) (x old v2 : Value) (hME : E ≠ M) (k6 : w.cell? ⟨M, 6, none⟩ = some (.pointer (some ⟨E, 0, none⟩))) (k1 : w.cell? ⟨M, 1, none⟩ = some (.int .i64 pc)) (k2 : w.cell? ⟨M, 2, none⟩ = some v2) (k3 : w.cell? ⟨M, 3, none⟩ = some old) (f1 : w.frozen? ⟨M, 1, none⟩ = false) (f2 : w.frozen? ⟨M, 2, none⟩ = false) (f3 : w.frozen? ⟨M, 3, none⟩ = false)
    (e3 : w.cell? ⟨E, 3, none⟩ = some (.int .i64 n)) (e2 : w.cell? ⟨E, 2, none⟩ = some (.pointer (some ⟨gf, 0, none⟩))) :
    Calls Tryz.prog 212 #[.pointer (some ⟨M, 0, none⟩), .iface t x] w (RetW (.tuple #[]) (((w.setCell ⟨M, 2, none⟩ (.iface t x)).setCell ⟨M, 1, none⟩ (.int .i64 n)).setCell ⟨M, 3, none⟩ (.pointer (some ⟨gf, 0, none⟩))).drew) := by
  go_enter Tryz.func212, Tryz.ntmps212
  go_wp2_with fail
  refine (resume_raw _ M E gf n pc old ((World.cell?_setCell_other _ _ _ _ (by simp)).trans k6) ((World.cell?_setCell_other _ _ _ _ (by simp)).trans k1) ((World.cell?_setCell_other _ _ _ _ (by simp)).trans k3) ((World.frozen?_setCell _ _ _ _).trans f1) ((World.frozen?_setCell _ _ _ _).trans f3) ((World.cell?_setCell_other _ _ _ _ (by simp)).trans e3) ((World.cell?_setCell_other _ _ _ _ (by simp [Ne.symm hME])).trans e2)).mono ?_
  rintro e w1 ⟨rfl, rfl⟩
  go_wp2
  refine bodyPost_ret (results_none rfl _ _ _) rfl ?_
  exact ⟨rfl, rfl⟩

set_option maxRecDepth 100000 in
set_option maxHeartbeats 1000000 in
theorem running_raw (w : World) (M : Nat) (s : Int) (k8 : w.cell? ⟨M, 8, none⟩ = some (.int .i64 s)) :
    Calls Tryz.prog 52 #[.pointer (some ⟨M, 0, none⟩)] w (RetW (.bool (s == 0)) w) := by
  go_enter Tryz.func52, Tryz.ntmps52
  go_wp2
  go_ret
  exact ⟨rfl, rfl⟩

/-- The world behind stop. -/
def stopW (w : World) (M : Nat) (st er de : Int) (va : ByteArray) : World :=
  ((((((((((w.setCell ⟨M, 8, none⟩ (.int .i64 st)).setCell ⟨M, 9, none⟩ (.int .i64 er)).setCell ⟨M, 10, none⟩ (.int .i64 de)).setCell ⟨M, 11, none⟩ (.string va)).setCell ⟨M, 1, none⟩ (.int .i64 0)).setCell ⟨M, 2, none⟩ .nilIface).setCell ⟨M, 3, none⟩ (.pointer none)).setCell ⟨M, 4, none⟩ .nilIface).setCell ⟨M, 5, none⟩ (.slice none 0 0)).setCell ⟨M, 6, none⟩ (.pointer none)).alloc (.cells #[.int .i64 st, .int .i64 er, .int .i64 de, .string va] 52)
set_option maxRecDepth 100000 in
set_option maxHeartbeats 1000000 in
theorem stop_raw (w : World) (M : Nat) (c1 c2 c3 c4 c5 c6 c8 c9 c10 c11 : Value) (st er de : Int) (va : ByteArray) (hl : M < w.heap.size)
    (k1 : w.cell? ⟨M, 1, none⟩ = some c1) (k2 : w.cell? ⟨M, 2, none⟩ = some c2) (k3 : w.cell? ⟨M, 3, none⟩ = some c3) (k4 : w.cell? ⟨M, 4, none⟩ = some c4) (k5 : w.cell? ⟨M, 5, none⟩ = some c5) (k6 : w.cell? ⟨M, 6, none⟩ = some c6)
    (k8 : w.cell? ⟨M, 8, none⟩ = some c8) (k9 : w.cell? ⟨M, 9, none⟩ = some c9) (k10 : w.cell? ⟨M, 10, none⟩ = some c10) (k11 : w.cell? ⟨M, 11, none⟩ = some c11) (hf : ∀ o, w.frozen? ⟨M, o, none⟩ = false) :
    Calls Tryz.prog 51 #[.pointer (some ⟨M, 0, none⟩), .agg #[.int .i64 st, .int .i64 er, .int .i64 de, .string va]] w (RetW (.tuple #[]) (stopW w M st er de va)) := by
  go_enter Tryz.func51, Tryz.ntmps51
  go_wp2
  refine bodyPost_ret (results_none rfl _ _ _) rfl ?_
  exact ⟨rfl, rfl⟩

set_option maxRecDepth 100000 in
set_option maxHeartbeats 1000000 in
theorem toBeDone_raw (w : World) (M : Nat) (top : Option Addr) (hl : M < w.heap.size) (k6 : w.cell? ⟨M, 6, none⟩ = some (.pointer top)) :
    Calls Tryz.prog 216 #[.pointer (some ⟨M, 0, none⟩)] w (RetW (.pointer (some ⟨w.heap.size + 2, 0, none⟩)) (((w.alloc (.cells #[.pointer (some ⟨M, 0, none⟩)] 73)).alloc (.cells #[.pointer top] 111)).alloc (.cells #[.string ⟨#[119, 104, 97, 116, 32, 99, 97, 108, 108, 47, 99, 99, 32, 103, 97, 118, 101]⟩, .int .i64 1, .func (.func 231) #[] #[.pointer (some ⟨w.heap.size + 1, 0, none⟩), .pointer (some ⟨w.heap.size, 0, none⟩)]] 220))) := by
  have hmf : ∀ (fn : Fn) (first cap : Array Value) (w : World), (Instr.makeFunc fn first cap).run Tryz.prog w = .ok (.func fn first cap) w := fun _ _ _ _ => rfl
  go_enter Tryz.func216, Tryz.ntmps216
  go_wp2
  go_ret
  exact ⟨rfl, rfl⟩
end Go.Proofs.YtlobegpjenabaaaGreatDoor

/- latheref.skip: behind spaces, newlines and comments. -/
namespace Go.Proofs.YtlobegpjenabaaaGreatDoor
open Go.RowKit

theorem drop_at (s : ByteArray) (k : Nat) (h : k < s.size) : s.data.toList.drop k = s[k] :: s.data.toList.drop (k + 1) := by
  rw [List.drop_eq_getElem_cons (by simpa using h)]; rfl
theorem drop_end (s : ByteArray) (k : Nat) (h : s.size ≤ k) : s.data.toList.drop k = [] := by
  rw [List.drop_eq_nil_iff]; simpa using h
theorem len_eq (s : ByteArray) : s.data.toList.length = s.size := by simp

def commentTo (l : List UInt8) (i : Nat) : Nat := i + skipB true (l.drop i)

theorem skip_gap (s : ByteArray) (k : Nat) (h : k < s.size) (c : s[k].toNat = 32 ∨ s[k].toNat = 10) : skipTo s.data.toList (k + 1) = skipTo s.data.toList k := by
  simp only [skipTo]; rw [drop_at s k h]; simp only [skipB]; rw [if_pos c]; omega
theorem skip_cm (s : ByteArray) (k : Nat) (h : k < s.size) (c : s[k].toNat = 59) : commentTo s.data.toList k = skipTo s.data.toList k := by
  simp only [skipTo, commentTo]; rw [drop_at s k h]; simp only [skipB]; rw [if_neg (by omega), if_neg (by omega), if_pos c]
theorem skip_no (s : ByteArray) (k : Nat) (h : k < s.size) (c1 : ¬ s[k].toNat = 32) (c2 : ¬ s[k].toNat = 10) (c3 : ¬ s[k].toNat = 59) : skipTo s.data.toList k = k := by
  simp only [skipTo]; rw [drop_at s k h]; simp only [skipB]; rw [if_neg (by omega), if_neg c3]; rfl
theorem skip_end (s : ByteArray) (k : Nat) (h : s.size ≤ k) : skipTo s.data.toList k = k := by
  simp only [skipTo]; rw [drop_end s k h]; rfl
theorem cm_nl (s : ByteArray) (k : Nat) (h : k < s.size) (c : s[k].toNat = 10) : skipTo s.data.toList k = commentTo s.data.toList k := by
  simp only [skipTo, commentTo]; rw [drop_at s k h]; simp only [skipB]; rw [if_pos (by omega), if_pos c]
theorem cm_end (s : ByteArray) (k : Nat) (h : s.size ≤ k) : skipTo s.data.toList k = commentTo s.data.toList k := by
  simp only [skipTo, commentTo]; rw [drop_end s k h]; rfl
theorem cm_go (s : ByteArray) (k : Nat) (h : k < s.size) (c : ¬ s[k].toNat = 10) : commentTo s.data.toList (k + 1) = commentTo s.data.toList k := by
  simp only [commentTo]; rw [drop_at s k h]; simp only [skipB]; rw [if_neg c]; omega

theorem skipB_le : ∀ (l : List UInt8) (b : Bool), skipB b l ≤ l.length
  | [], b => by simp [skipB]
  | c :: r, false => by
    have h1 := skipB_le r false; have h2 := skipB_le r true
    simp only [skipB, List.length_cons]; split
    · omega
    · split <;> omega
  | c :: r, true => by
    have h1 := skipB_le r false; have h2 := skipB_le r true
    simp only [skipB, List.length_cons]; split <;> omega
theorem skipTo_le (l : List UInt8) (i : Nat) (h : i ≤ l.length) : skipTo l i ≤ l.length := by
  have := skipB_le (l.drop i) false; simp at this; unfold skipTo; omega
theorem le_skipTo (l : List UInt8) (i : Nat) : i ≤ skipTo l i := by unfold skipTo; omega

set_option maxHeartbeats 1000000 in
theorem skip_any (s : ByteArray) (i : Nat) (w : World) (hi : i ≤ s.size) (hs : s.size ≤ 1000) :
    Calls Tryz.prog 63 #[.string s, .int .i64 i] w fun e w' => e = .returned (.int .i64 (skipTo s.data.toList i)) ∧ w' = w := by
  go_enter Tryz.func63, Tryz.ntmps63
  go_wp2
  go_loop [1] (fun v => ∃ k : Nat, k ≤ s.size ∧ v = .int .i64 k ∧ skipTo s.data.toList k = skipTo s.data.toList i) (fun v => s.size - (intOf v).toNat)
  case atStart => exact ⟨i, hi, rfl, rfl⟩
  case round =>
    obtain ⟨k, hk, rfl, hT⟩ := hrel
    have HT : Hid (skipTo s.data.toList k = skipTo s.data.toList i) := hT
    clear hT
    by_cases hlt : k < s.size
    · by_cases c1 : s[k].toNat = 32
      · have b1 : ((s[k].toNat : Int) == 32) = true := by rw [beq_iff_eq]; omega
        have C1 : Hid (s[k].toNat = 32) := c1
        clear c1
        go_wp2
        go_round
        case rel => exact ⟨k + 1, by omega, by go_num, by rw [skip_gap s k hlt (Or.inl C1.out)]; exact HT.out⟩
        case measure => simp [intOf]; omega
      have b1 : ((s[k].toNat : Int) == 32) = false := by rw [beq_eq_false_iff_ne]; omega
      by_cases c2 : s[k].toNat = 10
      · have b2 : ((s[k].toNat : Int) == 10) = true := by rw [beq_iff_eq]; omega
        have C2 : Hid (s[k].toNat = 10) := c2
        clear c1 c2
        go_wp2
        go_round
        case rel => exact ⟨k + 1, by omega, by go_num, by rw [skip_gap s k hlt (Or.inr C2.out)]; exact HT.out⟩
        case measure => simp [intOf]; omega
      have b2 : ((s[k].toNat : Int) == 10) = false := by rw [beq_eq_false_iff_ne]; omega
      by_cases c3 : s[k].toNat = 59
      · have b3 : ((s[k].toNat : Int) == 59) = true := by rw [beq_iff_eq]; omega
        have C3 : Hid (s[k].toNat = 59) := c3
        have C2 : Hid (¬ s[k].toNat = 10) := c2
        clear c1 c2 c3
        have HC : Hid (commentTo s.data.toList k = skipTo s.data.toList i) := by show _ = _; rw [skip_cm s k hlt C3.out]; exact HT.out
        go_wp2
        go_loop [1] (fun v => ∃ j : Nat, k ≤ j ∧ j ≤ s.size ∧ v = .int .i64 j ∧ commentTo s.data.toList j = skipTo s.data.toList i) (fun v => s.size - (intOf v).toNat)
        case atStart => exact ⟨k, Nat.le_refl _, by omega, rfl, HC.out⟩
        case round =>
          obtain ⟨j, hkj, hj, rfl, hT⟩ := hrel
          have HJ : Hid (commentTo s.data.toList j = skipTo s.data.toList i) := hT
          clear hT b1 b2 b3
          by_cases hjl : j < s.size
          · by_cases c4 : s[j].toNat = 10
            · have b4 : ((s[j].toNat : Int) != 10) = false := by simp; omega
              have C4 : Hid (s[j].toNat = 10) := c4
              clear c4
              have hne : k < j := by
                rcases Nat.lt_or_eq_of_le hkj with h | h
                · exact h
                · subst h; exact absurd C4.out C2.out
              go_wp2
              go_round
              case rel => exact ⟨j, by omega, rfl, by rw [cm_nl s j hjl C4.out]; exact HJ.out⟩
              case measure => simp [intOf]; omega
            · have b4 : ((s[j].toNat : Int) != 10) = true := by simp; omega
              have C4 : Hid (¬ s[j].toNat = 10) := c4
              clear c4
              go_wp2
              go_round
              case rel => exact ⟨j + 1, by omega, by omega, by go_num, by rw [cm_go s j hjl C4.out]; exact HJ.out⟩
              case measure => simp [intOf]; omega
          · go_wp2
            go_round
            case rel => exact ⟨j, by omega, rfl, by rw [cm_end s j (by omega)]; exact HJ.out⟩
            case measure => simp [intOf]; omega
      · have b3 : ((s[k].toNat : Int) == 59) = false := by rw [beq_eq_false_iff_ne]; omega
        have CC : Hid (skipTo s.data.toList k = k) := skip_no s k hlt c1 c2 c3
        clear c1 c2 c3
        go_wp2
        go_ret
        exact ⟨ret_int (by rw [← HT.out, CC.out]), rfl⟩
    · go_wp2
      go_ret
      exact ⟨ret_int (by rw [← HT.out, skip_end s k (by omega)]), rfl⟩
end Go.Proofs.YtlobegpjenabaaaGreatDoor
