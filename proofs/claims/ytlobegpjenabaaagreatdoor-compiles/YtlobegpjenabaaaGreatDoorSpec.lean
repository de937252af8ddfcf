/- The plain functions that the document's answer computes: bytes, tokens, data, forms. No program text is named here. -/
import GoSem.ClaimWide
namespace Go.Proofs.YtlobegpjenabaaaGreatDoor
open Go

/-- A datum: an int, a bool, a symbol (.lit), a list (.agg). -/
abbrev D := DataW Unit
def sym (s : List UInt8) : D := .lit (.string s)
def num (k : Int) : D := .lit (.int .i64 k)
def boo (b : Bool) : D := .lit (.bool b)
def lst (l : List D) : D := .agg l
/-- the name quote -/
def qsym : List UInt8 := [113, 117, 111, 116, 101]

/-- A digit. -/
def digB (b : Int) : Bool := decide (48 ≤ b) && decide (b ≤ 57)
def lowB (b : Int) : Bool := decide (97 ≤ b) && decide (b ≤ 122)
def signs : List Int := [43, 45, 42, 47, 60, 62, 61, 63, 33]
/-- The sort of a byte: 1 a digit, 2 a letter or sign, 3 the hash, 0 none. -/
def sortI (b : Int) : Int := if digB b then 1 else if lowB b then 2 else if b == 35 then 3 else if signs.contains b then 2 else 0
def sortU (c : UInt8) : Int := sortI c.toNat

/-- How many bytes of spaces, newlines and comments stand first; the bool: within a comment. -/
def skipB : Bool → List UInt8 → Nat
  | _, [] => 0
  | false, c :: r => if c.toNat = 32 ∨ c.toNat = 10 then skipB false r + 1 else if c.toNat = 59 then skipB true r + 1 else 0
  | true, c :: r => if c.toNat = 10 then skipB false r + 1 else skipB true r + 1
/-- The place behind them, from place i on. -/
def skipTo (l : List UInt8) (i : Nat) : Nat := i + skipB false (l.drop i)

/-- How many bytes of tokens stand first. -/
def tokN : List UInt8 → Nat
  | [] => 0
  | c :: r => if sortU c = 0 then 0 else tokN r + 1
def tokEnd (l : List UInt8) (i : Nat) : Nat := i + tokN (l.drop i)

/-- The number of these digits, behind the number a. -/
def valF (a : Int) : List UInt8 → Int
  | [] => a
  | c :: r => valF (10 * a + (c.toNat - 48 : Int)) r
def val (l : List UInt8) : Int := valF 0 l

def minus (t : List UInt8) : Bool := match t with | c :: _ => c.toNat == 45 | [] => false
/-- What stands behind a minus sign, or all. -/
def body (t : List UInt8) : List UInt8 := if minus t then t.tail else t
def digits (t : List UInt8) : Bool := !t.isEmpty && t.all fun c => sortU c == 1
def hashed (t : List UInt8) : Bool := t.any fun c => sortU c == 3
def first1 (t : List UInt8) : Bool := match t with | c :: _ => sortU c == 1 | [] => false
/-- What a token says; none: it can't stand anywhere. -/
def tokD (t : List UInt8) : Option D :=
  if t = [35, 116] then some (boo true) else if t = [35, 102] then some (boo false)
  else if digits (body t) then (if 18 < (body t).length then none else some (num (if minus t then -(val (body t)) else val (body t))))
  else if first1 t || hashed t then none else some (sym t)

/-- What is wrong, and where; or a result. -/
abbrev Res (α : Type) := Sum (Int × Nat) α

/-- A datum from place i on, within so many that are open ('none'), or a list's rest behind the data acc ('some acc'): by descent. -/
def rd : Nat → List UInt8 → Nat → Nat → Option (List D) → Res (D × Nat)
  | 0, _, _, _, _ => .inl (0, 0)
  | n + 1, l, op, i, none =>
    if (l.getD i 0).toNat = 41 then .inl (2, i)
    else if (l.getD i 0).toNat = 40 then (if 20 ≤ op then .inl (3, i) else rd n l (op + 1) (i + 1) (some []))
    else if (l.getD i 0).toNat = 39 then
      (if 20 ≤ op then .inl (3, i) else if skipTo l (i + 1) = l.length then .inl (2, l.length) else
        match rd n l (op + 1) (skipTo l (i + 1)) none with
        | .inl e => .inl e
        | .inr (d, k) => .inr (lst [sym qsym, d], k))
    else if tokEnd l i = i then .inl (2, i)
    else match tokD ((l.drop i).take (tokEnd l i - i)) with
      | none => .inl (2, i)
      | some d => .inr (d, tokEnd l i)
  | n + 1, l, op, i, some acc =>
    if skipTo l i = l.length then .inl (2, l.length)
    else if (l.getD (skipTo l i) 0).toNat = 41 then .inr (lst acc, skipTo l i + 1)
    else match rd n l op (skipTo l i) none with
      | .inl e => .inl e
      | .inr (d, k) => rd n l op k (some (acc ++ [d]))

/-- All data of a text. -/
def readS : Nat → List UInt8 → Nat → List D → Res (List D)
  | 0, _, _, acc => .inr acc
  | n + 1, l, i, acc =>
    if skipTo l i = l.length then .inr acc
    else match rd (2 * l.length + 2) l 0 (skipTo l i) none with
      | .inl e => .inl e
      | .inr (d, k) => readS n l k (acc ++ [d])

/-- The seven keywords. -/
def kws : List (List UInt8) := [[113, 117, 111, 116, 101], [105, 102], [100, 101, 102, 105, 110, 101], [115, 101, 116, 33], [108, 97, 109, 98, 100, 97], [98, 101, 103, 105, 110], [108, 101, 116]]
def kwB (s : List UInt8) : Bool := kws.contains s
def varD : D → Bool
  | .lit (.string s) => !kwB s
  | _ => false
def nameD : D → List UInt8
  | .lit (.string s) => s
  | _ => []
/-- Variables, no two the same; behind those that are there. -/
def varsL : List (List UInt8) → List D → Bool
  | _, [] => true
  | seen, d :: r => varD d && !seen.contains (nameD d) && varsL (seen ++ [nameD d]) r
def isList : D → Bool
  | .agg _ => true
  | _ => false
def itemsD : D → List D
  | .agg l => l
  | _ => []
/-- The keyword of a list, or nothing. -/
def headK : List D → List UInt8
  | .lit (.string s) :: _ => if kwB s then s else []
  | _ => []
def bindL (f : D → Bool) : List (List UInt8) → List D → Bool
  | _, [] => true
  | seen, b :: r => isList b && decide ((itemsD b).length = 2) && f ((itemsD b).getD 1 (lst [])) && bindL f seen r

/-- Is it an expression? The number: more than it is deep. -/
def exprF : Nat → D → Bool
  | 0, _ => false
  | n + 1, .agg l =>
    if headK l = [113, 117, 111, 116, 101] then decide (l.length = 2)
    else if headK l = [105, 102] then (decide (l.length = 3) || decide (l.length = 4)) && l.tail.all (exprF n)
    else if headK l = [115, 101, 116, 33] then decide (l.length = 3) && varD (l.getD 1 (lst [])) && (l.drop 2).all (exprF n)
    else if headK l = [108, 97, 109, 98, 100, 97] then decide (3 ≤ l.length) && isList (l.getD 1 (num 0)) && varsL [] (itemsD (l.getD 1 (num 0))) && (l.drop 2).all (exprF n)
    else if headK l = [98, 101, 103, 105, 110] then decide (2 ≤ l.length) && l.tail.all (exprF n)
    else if headK l = [100, 101, 102, 105, 110, 101] then
      (if 3 ≤ l.length ∧ 0 < (itemsD (l.getD 1 (num 0))).length
       then varD ((itemsD (l.getD 1 (num 0))).getD 0 (num 0)) && varsL [] (itemsD (l.getD 1 (num 0))).tail && (l.drop 2).all (exprF n)
       else decide (l.length = 3) && varD (l.getD 1 (lst [])) && (l.drop 2).all (exprF n))
    else if headK l = [108, 101, 116] then
      decide (3 ≤ l.length) && isList (l.getD 1 (num 0)) && bindL (exprF n) [] (itemsD (l.getD 1 (num 0))) && varsL [] ((itemsD (l.getD 1 (num 0))).map fun b => (itemsD b).getD 0 (num 0)) && (l.drop 2).all (exprF n)
    else !l.isEmpty && l.all (exprF n)
  | _ + 1, .lit (.string s) => !kwB s
  | _ + 1, _ => true

/-- The first form that is none, from number i on. -/
def badAt (n : Nat) : Nat → List D → Option Nat
  | _, [] => none
  | i, d :: r => if exprF n d then badAt n (i + 1) r else some i

/-- P3: what is wrong with a text, and where. -/
def compS (l : List UInt8) : Int × Int :=
  if 1000 < l.length then (1, 1000)
  else match readS (l.length + 1) l 0 [] with
    | .inl (e, a) => (e, a)
    | .inr f => match badAt 21 0 f with
      | some i => (4, i)
      | none => (0, 0)

end Go.Proofs.YtlobegpjenabaaaGreatDoor
