/- Loops: the programs, as they run. -/
import Derived.Test.YtlobegpjenabaaaGreatDoorQKpObs
namespace Go.Proofs.YtlobegpjenabaaaGreatDoor
open Go.RowKit
set_option linter.unusedSimpArgs false
set_option linter.unusedVariables false

theorem Ends.sh {C : Cd} {t : List UInt8} (G : List Fr) : ∀ {N : Nat} {s : MS}, Ends C t N s → Ends C t N (Go.Proofs.YtlobegpjenabaaaGreatDoor.sh G s)
  | 0, _, h => h.elim
  | 1, s, ⟨h1, h2, h3, F, h4⟩ => ⟨shF_ne G _ h1, by simpa [Go.Proofs.YtlobegpjenabaaaGreatDoor.sh] using h2, by simpa [Go.Proofs.YtlobegpjenabaaaGreatDoor.sh] using h3, F, goS_sh G C F s 1 0 1 _ h1 h4 (fun _ _ e => by cases e)⟩
  | N + 2, s, ⟨h1, h2, h3, F, s', h4, h5⟩ => ⟨shF_ne G _ h1, by simpa [Go.Proofs.YtlobegpjenabaaaGreatDoor.sh] using h2, by simpa [Go.Proofs.YtlobegpjenabaaaGreatDoor.sh] using h3, F, Go.Proofs.YtlobegpjenabaaaGreatDoor.sh G s', goS_sh G C F s 1 0 1 _ h1 h4 (fun _ _ e => by cases e), Ends.sh G h5⟩
theorem Ends.step {C : Cd} {t : List UInt8} {N F : Nat} {s s' : MS} (h1 : s.frs ≠ []) (h2 : s.st.length ≤ 3) (h3 : 0 < s.st.length) (hg : goS C F s 1 0 = some (1, .run s')) (h : Ends C t N s') : Ends C t (N + 1) s := by
  cases N with
  | zero => exact h.elim
  | succ N => exact ⟨h1, h2, h3, F, s', hg, h⟩

/-- (define (loop i) (if (< i <n>) (loop (+ i 1)) i)) (loop 0) -/
def LpAX (tn : List UInt8) : List Sx := [.lst [.tok [100, 101, 102, 105, 110, 101], .lst [.tok [108, 111, 111, 112], .tok [105]], .lst [.tok [105, 102], .lst [.tok [60], .tok [105], .tok tn], .lst [.tok [108, 111, 111, 112], .lst [.tok [43], .tok [105], .tok [49]]], .tok [105]]], .lst [.tok [108, 111, 111, 112], .tok [48]]]
def LpAD (dn : D) : List D := [lst [sym [100, 101, 102, 105, 110, 101], lst [sym [108, 111, 111, 112], sym [105]], lst [sym [105, 102], lst [sym [60], sym [105], dn], lst [sym [108, 111, 111, 112], lst [sym [43], sym [105], num (1)]], sym [105]]], lst [sym [108, 111, 111, 112], num (0)]]
def LpAE (n : Int) : List E := [.define [108, 111, 111, 112] (.lambda [108, 111, 111, 112] [[105]] (.ite (.apply [.var [60], .var [105], .const (num n)]) (.apply [.var [108, 111, 111, 112], .apply [.var [43], .var [105], .const (num (1))]]) (.var [105]))), .apply [.var [108, 111, 111, 112], .const (num (0))]]
def LpAT (tn : List UInt8) : List UInt8 := [40, 100, 101, 102, 105, 110, 101, 32, 40, 108, 111, 111, 112, 32, 105, 41, 32, 40, 105, 102, 32, 40, 60, 32, 105, 32] ++ tn ++ [41, 32, 40, 108, 111, 111, 112, 32, 40, 43, 32, 105, 32, 49, 41, 41, 32, 105, 41, 41, 32, 40, 108, 111, 111, 112, 32, 48, 41]
set_option maxRecDepth 100000 in
theorem LpA_text (tn : List UInt8) : prF (LpAX tn) = LpAT tn := by simp [LpAX, LpAT, prF, prS, prL, prT, prR]
set_option maxRecDepth 100000 in
theorem comp_LpA (n : Int) (hn : Small n) : Comp (LpAT (Lib.itoa n)) 3 (codeS (LpAE n)) := by
  have ln := itoa_lenS n hn
  have kn := itoa_okT n hn
  refine comp_of (LpAX (Lib.itoa n)) (LpAE n) 3 (LpA_text _).symm (by rw [LpA_text]; simp [LpAT]; omega) ?_ (LpAD (num n)) ?_ (by kernel_rfl) (by kernel_rfl) ?_
  · unfold LpAX
    repeat' first | with_reducible exact kn | with_reducible exact okL_nil _ | with_reducible apply okL_cons | with_reducible apply okS_lst (by decide) | with_reducible apply okS_quo (by decide) | with_reducible apply okS_tok | kernel_rfl
  · have : datL (LpAX (Lib.itoa n)) = LpAD ((tokD (Lib.itoa n)).getD (sym [])) := by kernel_rfl
    rw [this, tokD_itoa n hn]; rfl
  · have e : cdOk 3 (codeS (LpAE n)) = csOk 3 [some (num (0)), some (num n), some (num (1))] := by kernel_rfl
    rw [e]
    repeat' first | with_reducible exact csOk_nil _ | with_reducible apply csOk_some | with_reducible apply csOk_none | with_reducible exact dOk_num (Small.in hn) | kernel_rfl
def lpC (n : Int) : Cd := cdOf (codeS (LpAE n)) [.int 0, .int n, .int 1]
def lpF : Fr := ⟨[3, 2, 1], [.proc 0, .proc 6, .proc 28], none⟩
def lpO : List (Option PK) := (List.range 14).map (fun k => some (.first k)) ++ [some (.clo 0 0)]
def lpP (i : Int) : Fr := ⟨[0], [.int i], some 0⟩
/-- Held ahead of the test; behind it; ahead of the sum; ahead of the call. -/
def lpY (n i : Int) : MS := ⟨21, some (.int n), 1, some (.proc 6, [.int i, .int n]), [⟨1, 22, []⟩, ⟨0, 12, []⟩], [], [lpF, lpP i], lpO⟩
def lpB (n i : Int) (b : Bool) : MS := ⟨22, some (.bool b), 1, none, [⟨1, 22, []⟩, ⟨0, 12, []⟩], [], [lpF, lpP i], lpO⟩
def lpZ (n i : Int) : MS := ⟨33, some (.int 1), 1, some (.proc 0, [.int i, .int 1]), [⟨1, 34, [.proc 28]⟩, ⟨0, 12, []⟩], [], [lpF, lpP i], lpO⟩
def lpW (n i j : Int) : MS := ⟨35, some (.int j), 1, some (.proc 28, [.int j]), [⟨0, 12, []⟩], [], [lpF, lpP i], lpO⟩
set_option maxRecDepth 100000 in
theorem lp_test (n i : Int) : goS (lpC n) 21 (lpY n i) 1 0 = goS (lpC n) 20 (lpB n i (decide (i < n))) 1 1 := by kernel_rfl
set_option maxRecDepth 100000 in
theorem lp_yes (n i : Int) : goS (lpC n) 20 (lpB n i true) 1 1 = some (1, .run (lpZ n i)) := by kernel_rfl
set_option maxRecDepth 100000 in
theorem lp_no (n i : Int) : goS (lpC n) 20 (lpB n i false) 1 1 = some (1, .done ((toldS (.int i)).take 100) []) := by kernel_rfl
set_option maxRecDepth 100000 in
theorem lp_sum (n i : Int) : goS (lpC n) 20 (lpZ n i) 1 0 = some (1, .run (lpW n i (w64 (i + 1)))) := by kernel_rfl
set_option maxRecDepth 100000 in
theorem lp_call (n i j : Int) : goS (lpC n) 20 (lpW n i j) 1 0 = some (1, .run (sh [lpP i] (lpY n j))) := by kernel_rfl
set_option maxRecDepth 100000 in
theorem lp_start (n : Int) : goS (lpC n) 60 (startS (lpC n)) 1 0 = some (1, .run (lpY n 0)) := by kernel_rfl
theorem lp_ends (n : Int) (hn : n < 1000) : ∀ (d : Nat) (i : Int), 0 ≤ i → i + d = n → Ends (lpC n) ((toldS (.int n)).take 100) (3 * d + 1) (lpY n i)
  | 0, i, h0, h => by
    have : i = n := by omega
    subst this
    refine ⟨by simp [lpY], by simp [lpY], by simp [lpY], 21, ?_⟩
    rw [lp_test, decide_eq_false (by omega)]
    exact lp_no i i
  | d + 1, i, h0, h => by
    have ih := lp_ends n hn d (i + 1) (by omega) (by omega)
    have s1 : Ends (lpC n) ((toldS (.int n)).take 100) (3 * d + 1 + 1) (lpW n i (i + 1)) := Ends.step (by simp [lpW]) (by simp [lpW]) (by simp [lpW]) (lp_call n i (i + 1)) (ih.sh [lpP i])
    have s2 : Ends (lpC n) ((toldS (.int n)).take 100) (3 * d + 1 + 1 + 1) (lpZ n i) := Ends.step (by simp [lpZ]) (by simp [lpZ]) (by simp [lpZ]) (by have := lp_sum n i; rw [w64_of (i + 1) (by omega)] at this; exact this) s1
    have s3 : Ends (lpC n) ((toldS (.int n)).take 100) (3 * d + 1 + 1 + 1 + 1) (lpY n i) := Ends.step (by simp [lpY]) (by simp [lpY]) (by simp [lpY]) (F := 21) (by rw [lp_test, decide_eq_true (by omega)]; exact lp_yes n i) s2
    rw [show 3 * (d + 1) + 1 = 3 * d + 1 + 1 + 1 + 1 by omega]
    exact s3
theorem lp_all (d : Nat) (hd : d < 600) : Ends (lpC d) ((toldS (.int d)).take 100) (3 * d + 2) (startS (lpC d)) :=
  Ends.step (by simp [startS]) (by simp [startS]) (by simp [startS]) (lp_start d) (lp_ends d (by omega) d 0 (by omega) (by omega))
/-- (define (ping i) (if (< i <n>) (begin (not i) (pong (+ i 1))) i)) (define (pong i) (let ((j i)) (if (= j j) (ping j) 0))) (ping 0) -/
def LpBX (tn : List UInt8) : List Sx := [.lst [.tok [100, 101, 102, 105, 110, 101], .lst [.tok [112, 105, 110, 103], .tok [105]], .lst [.tok [105, 102], .lst [.tok [60], .tok [105], .tok tn], .lst [.tok [98, 101, 103, 105, 110], .lst [.tok [110, 111, 116], .tok [105]], .lst [.tok [112, 111, 110, 103], .lst [.tok [43], .tok [105], .tok [49]]]], .tok [105]]], .lst [.tok [100, 101, 102, 105, 110, 101], .lst [.tok [112, 111, 110, 103], .tok [105]], .lst [.tok [108, 101, 116], .lst [.lst [.tok [106], .tok [105]]], .lst [.tok [105, 102], .lst [.tok [61], .tok [106], .tok [106]], .lst [.tok [112, 105, 110, 103], .tok [106]], .tok [48]]]], .lst [.tok [112, 105, 110, 103], .tok [48]]]
def LpBD (dn : D) : List D := [lst [sym [100, 101, 102, 105, 110, 101], lst [sym [112, 105, 110, 103], sym [105]], lst [sym [105, 102], lst [sym [60], sym [105], dn], lst [sym [98, 101, 103, 105, 110], lst [sym [110, 111, 116], sym [105]], lst [sym [112, 111, 110, 103], lst [sym [43], sym [105], num (1)]]], sym [105]]], lst [sym [100, 101, 102, 105, 110, 101], lst [sym [112, 111, 110, 103], sym [105]], lst [sym [108, 101, 116], lst [lst [sym [106], sym [105]]], lst [sym [105, 102], lst [sym [61], sym [106], sym [106]], lst [sym [112, 105, 110, 103], sym [106]], num (0)]]], lst [sym [112, 105, 110, 103], num (0)]]
def LpBE (n : Int) : List E := [.define [112, 105, 110, 103] (.lambda [112, 105, 110, 103] [[105]] (.ite (.apply [.var [60], .var [105], .const (num n)]) (.seq [.apply [.var [110, 111, 116], .var [105]], .apply [.var [112, 111, 110, 103], .apply [.var [43], .var [105], .const (num (1))]]]) (.var [105]))), .define [112, 111, 110, 103] (.lambda [112, 111, 110, 103] [[105]] (.apply [.lambda [] [[106]] (.ite (.apply [.var [61], .var [106], .var [106]]) (.apply [.var [112, 105, 110, 103], .var [106]]) (.const (num (0)))), .var [105]])), .apply [.var [112, 105, 110, 103], .const (num (0))]]
def LpBT (tn : List UInt8) : List UInt8 := [40, 100, 101, 102, 105, 110, 101, 32, 40, 112, 105, 110, 103, 32, 105, 41, 32, 40, 105, 102, 32, 40, 60, 32, 105, 32] ++ tn ++ [41, 32, 40, 98, 101, 103, 105, 110, 32, 40, 110, 111, 116, 32, 105, 41, 32, 40, 112, 111, 110, 103, 32, 40, 43, 32, 105, 32, 49, 41, 41, 41, 32, 105, 41, 41, 32, 40, 100, 101, 102, 105, 110, 101, 32, 40, 112, 111, 110, 103, 32, 105, 41, 32, 40, 108, 101, 116, 32, 40, 40, 106, 32, 105, 41, 41, 32, 40, 105, 102, 32, 40, 61, 32, 106, 32, 106, 41, 32, 40, 112, 105, 110, 103, 32, 106, 41, 32, 48, 41, 41, 41, 32, 40, 112, 105, 110, 103, 32, 48, 41]
set_option maxRecDepth 100000 in
theorem LpB_text (tn : List UInt8) : prF (LpBX tn) = LpBT tn := by simp [LpBX, LpBT, prF, prS, prL, prT, prR]
set_option maxRecDepth 100000 in
theorem comp_LpB (n : Int) (hn : Small n) : Comp (LpBT (Lib.itoa n)) 3 (codeS (LpBE n)) := by
  have ln := itoa_lenS n hn
  have kn := itoa_okT n hn
  refine comp_of (LpBX (Lib.itoa n)) (LpBE n) 3 (LpB_text _).symm (by rw [LpB_text]; simp [LpBT]; omega) ?_ (LpBD (num n)) ?_ (by kernel_rfl) (by kernel_rfl) ?_
  · unfold LpBX
    repeat' first | with_reducible exact kn | with_reducible exact okL_nil _ | with_reducible apply okL_cons | with_reducible apply okS_lst (by decide) | with_reducible apply okS_quo (by decide) | with_reducible apply okS_tok | kernel_rfl
  · have : datL (LpBX (Lib.itoa n)) = LpBD ((tokD (Lib.itoa n)).getD (sym [])) := by kernel_rfl
    rw [this, tokD_itoa n hn]; rfl
  · have e : cdOk 3 (codeS (LpBE n)) = csOk 3 [some (num (0)), some (num n), some (num (1)), some (num (0))] := by kernel_rfl
    rw [e]
    repeat' first | with_reducible exact csOk_nil _ | with_reducible apply csOk_some | with_reducible apply csOk_none | with_reducible exact dOk_num (Small.in hn) | kernel_rfl
def tpC (n : Int) : Cd := cdOf (codeS (LpBE n)) [.int 0, .int n, .int 1, .int 0]
def tpF : Fr := ⟨[5, 3, 7, 4, 1, 2], [.proc 0, .proc 6, .proc 8, .proc 20, .proc 28, .proc 30], none⟩
def tpN : Nat → List (Option PK)
  | 0 => []
  | q + 1 => none :: tpN q
def tpQ : List (Option PK) := (List.range 14).map (fun k => some (.first k)) ++ [some (.clo 0 0), some (.clo 1 0)]
def tpO (q : Nat) : List (Option PK) := tpQ ++ tpN q
def tpP (i : Int) : Fr := ⟨[0], [.int i], some 0⟩
def tpR (i : Int) : Fr := ⟨[6], [.int i], some 2⟩
def tpY (q : Nat) (n i : Int) : MS := ⟨26, some (.int n), 1, some (.proc 6, [.int i, .int n]), [⟨1, 27, []⟩, ⟨0, 17, []⟩], [], [tpF, tpP i], tpO q⟩
def tpB (q : Nat) (n i : Int) (b : Bool) : MS := ⟨27, some (.bool b), 1, none, [⟨1, 27, []⟩, ⟨0, 17, []⟩], [], [tpF, tpP i], tpO q⟩
def tp1 (q : Nat) (n i : Int) : MS := ⟨34, some (.int i), 1, some (.proc 20, [.int i]), [⟨1, 35, []⟩, ⟨0, 17, []⟩], [], [tpF, tpP i], tpO q⟩
def tp2 (q : Nat) (n i : Int) : MS := ⟨46, some (.int 1), 1, some (.proc 0, [.int i, .int 1]), [⟨1, 47, [.proc 30]⟩, ⟨0, 17, []⟩], [], [tpF, tpP i], tpO q⟩
def tp3 (q : Nat) (n i j : Int) : MS := ⟨48, some (.int j), 1, some (.proc 30, [.int j]), [⟨0, 17, []⟩], [], [tpF, tpP i], tpO q⟩
def tp4 (q : Nat) (n i j : Int) : MS := ⟨56, some (.int j), 2, some (.proc (2 * (tpO q).length), [.int j]), [⟨0, 17, []⟩], [], [tpF, tpP i, tpP j], tpO q ++ [some (.clo 2 2)]⟩
def tpL (q : Nat) (n i j : Int) : MS := ⟨57, some (.int j), 3, none, [⟨0, 17, []⟩], [], [tpF, tpP i, tpP j, tpR j], tpO q ++ [some (.clo 2 2)]⟩
def tp5 (q : Nat) (n i j : Int) : MS := ⟨65, some (.int j), 3, some (.proc 8, [.int j, .int j]), [⟨3, 66, []⟩, ⟨0, 17, []⟩], [], [tpF, tpP i, tpP j, tpR j], tpO q ++ [some (.clo 2 2)]⟩
def tpE (q : Nat) (n i j : Int) (b : Bool) : MS := ⟨66, some (.bool b), 3, none, [⟨3, 66, []⟩, ⟨0, 17, []⟩], [], [tpF, tpP i, tpP j, tpR j], tpO q ++ [some (.clo 2 2)]⟩
def tp6 (q : Nat) (n i j : Int) : MS := ⟨72, some (.int j), 3, some (.proc 28, [.int j]), [⟨0, 17, []⟩], [], [tpF, tpP i, tpP j, tpR j], tpO q ++ [some (.clo 2 2)]⟩
set_option maxRecDepth 100000 in
theorem tp_test (q : Nat) (n i : Int) : goS (tpC n) 21 (tpY q n i) 1 0 = goS (tpC n) 20 (tpB q n i (decide (i < n))) 1 1 := by kernel_rfl
set_option maxRecDepth 100000 in
theorem tp_yes (q : Nat) (n i : Int) : goS (tpC n) 20 (tpB q n i true) 1 1 = some (1, .run (tp1 q n i)) := by kernel_rfl
set_option maxRecDepth 100000 in
theorem tp_no (q : Nat) (n i : Int) : goS (tpC n) 20 (tpB q n i false) 1 1 = some (1, .done ((toldS (.int i)).take 100) []) := by kernel_rfl
set_option maxRecDepth 100000 in
theorem tp_not (q : Nat) (n i : Int) : goS (tpC n) 20 (tp1 q n i) 1 0 = some (1, .run (tp2 q n i)) := by kernel_rfl
set_option maxRecDepth 100000 in
theorem tp_sum (q : Nat) (n i : Int) : goS (tpC n) 20 (tp2 q n i) 1 0 = some (1, .run (tp3 q n i (w64 (i + 1)))) := by kernel_rfl
set_option maxRecDepth 100000 in
theorem tp_pong (q : Nat) (n i j : Int) : goS (tpC n) 20 (tp3 q n i j) 1 0 = some (1, .run (tp4 q n i j)) := by kernel_rfl
theorem tp_look (q : Nat) (n i j : Int) : procS? (tp4 q n i j) (2 * (tpO q).length) = some (.clo 2 2) := by
  unfold procS?
  rw [if_pos (by omega), show 2 * (tpO q).length / 2 = (tpO q).length by omega]
  show (match (tpO q ++ [some (.clo 2 2)])[(tpO q).length]? with | some (some k) => some k | _ => none) = _
  rw [List.getElem?_append_right (Nat.le_refl _), Nat.sub_self]
  rfl
set_option maxRecDepth 100000 in
theorem tp_do (q : Nat) (n i j : Int) : doS (tpC n) { tp4 q n i j with pc := 57, app := none } [.int j] (.clo 2 2) = .ok (tpL q n i j) := by kernel_rfl
set_option maxRecDepth 100000 in
theorem tp_fetch (q : Nat) (n i j : Int) : fetchS (tpC n) (tp4 q n i j) = some (12, 0) := by kernel_rfl
theorem tp_lam (q : Nat) (n i j : Int) : goS (tpC n) 21 (tp4 q n i j) 1 0 = goS (tpC n) 20 (tpL q n i j) 1 1 := by
  have hs : stepS (tpC n) (tp4 q n i j) = .ok (tpL q n i j) := by
    unfold stepS
    rw [tp_fetch]
    show opS (tpC n) { tp4 q n i j with pc := 57 } 12 0 = _
    show applyS (tpC n) { tp4 q n i j with pc := 57 } = _
    unfold applyS
    show (match procS? { tp4 q n i j with pc := 57 } (2 * (tpO q).length) with | some k => doS (tpC n) { tp4 q n i j with pc := 57, app := none } [.int j] k | none => .bad) = _
    rw [show procS? { tp4 q n i j with pc := 57 } (2 * (tpO q).length) = some (.clo 2 2) from tp_look q n i j]
    exact tp_do q n i j
  rw [goS, tp_fetch]
  simp only
  rw [if_neg (by decide), hs]
  rfl
set_option maxRecDepth 100000 in
theorem tp_let (q : Nat) (n i j : Int) : goS (tpC n) 20 (tpL q n i j) 1 1 = some (1, .run (tp5 q n i j)) := by kernel_rfl
set_option maxRecDepth 100000 in
theorem tp_eq (q : Nat) (n i j : Int) : goS (tpC n) 21 (tp5 q n i j) 1 0 = goS (tpC n) 20 (tpE q n i j (j == j)) 1 1 := by kernel_rfl
set_option maxRecDepth 100000 in
theorem tp_go (q : Nat) (n i j : Int) : goS (tpC n) 20 (tpE q n i j true) 1 1 = some (1, .run (tp6 q n i j)) := by kernel_rfl
set_option maxRecDepth 100000 in
theorem tp_ping (q : Nat) (n i j : Int) : goS (tpC n) 20 (tp6 q n i j) 1 0 = some (1, .run (wO (sh [tpP i, tpP j, tpR j] (tpY 0 n j)) (tpO q ++ [some (.clo 2 2)]))) := by kernel_rfl
set_option maxRecDepth 100000 in
theorem tp_start (n : Int) : goS (tpC n) 60 (startS (tpC n)) 1 0 = some (1, .run (tpY 0 n 0)) := by kernel_rfl
theorem tpN_len : ∀ q, (tpN q).length = q
  | 0 => rfl
  | q + 1 => by rw [tpN, List.length_cons, tpN_len q]
theorem tpN_none : ∀ (q i : Nat) (p : PK), (tpN q)[i]? ≠ some (some p)
  | 0, i, p => by simp [tpN]
  | q + 1, 0, p => by simp [tpN]
  | q + 1, i + 1, p => by rw [tpN, List.getElem?_cons_succ]; exact tpN_none q i p
theorem tpN_up : ∀ (q g : Nat), (tpN q).map (Option.map (PK.up g)) = tpN q
  | 0, g => rfl
  | q + 1, g => by rw [tpN, List.map_cons, tpN_up q g]; rfl
theorem tp_le (q g : Nat) : leO ((tpO (q + 1)).map (Option.map (PK.up g))) (tpO q ++ [some (.clo 2 2)]) := by
  have hb : tpQ.map (Option.map (PK.up g)) = tpQ := rfl
  unfold tpO
  rw [List.map_append, hb, tpN_up, List.append_assoc]
  refine ⟨by simp [tpN_len], fun i p hp => ?_⟩
  rcases Nat.lt_or_ge i tpQ.length with hi | hi
  · rw [List.getElem?_append_left hi] at hp ⊢
    exact hp
  · rw [List.getElem?_append_right hi] at hp
    exact absurd hp (tpN_none _ _ p)
theorem tp_ends (n : Int) (hn : n < 1000) : ∀ (d : Nat) (q : Nat) (i : Int), 0 ≤ i → i + d = n → Ends (tpC n) ((toldS (.int n)).take 100) (7 * d + 1) (tpY q n i)
  | 0, q, i, h0, h => by
    have : i = n := by omega
    subst this
    refine ⟨by simp [tpY], by simp [tpY], by simp [tpY], 21, ?_⟩
    rw [tp_test, decide_eq_false (by omega)]
    exact tp_no q i i
  | d + 1, q, i, h0, h => by
    have ih := tp_ends n hn d (q + 1) (i + 1) (by omega) (by omega)
    have i2 : Ends (tpC n) ((toldS (.int n)).take 100) (7 * d + 1) (wO (sh [tpP i, tpP (i + 1), tpR (i + 1)] (tpY (q + 1) n (i + 1))) (tpO q ++ [some (.clo 2 2)])) := (ih.sh [tpP i, tpP (i + 1), tpR (i + 1)]).le (tp_le q _)
    have s6 : Ends (tpC n) ((toldS (.int n)).take 100) (7 * d + 1 + 1) (tp6 q n i (i + 1)) := Ends.step (by simp [tp6]) (by simp [tp6]) (by simp [tp6]) (tp_ping q n i (i + 1)) i2
    have s5 : Ends (tpC n) ((toldS (.int n)).take 100) (7 * d + 1 + 1 + 1) (tp5 q n i (i + 1)) := Ends.step (by simp [tp5]) (by simp [tp5]) (by simp [tp5]) (F := 21) (by rw [tp_eq, beq_self_eq_true]; exact tp_go q n i (i + 1)) s6
    have s4 : Ends (tpC n) ((toldS (.int n)).take 100) (7 * d + 1 + 1 + 1 + 1) (tp4 q n i (i + 1)) := Ends.step (by simp [tp4]) (by simp [tp4]) (by simp [tp4]) (F := 21) (by rw [tp_lam]; exact tp_let q n i (i + 1)) s5
    have s3 : Ends (tpC n) ((toldS (.int n)).take 100) (7 * d + 1 + 1 + 1 + 1 + 1) (tp3 q n i (i + 1)) := Ends.step (by simp [tp3]) (by simp [tp3]) (by simp [tp3]) (tp_pong q n i (i + 1)) s4
    have s2 : Ends (tpC n) ((toldS (.int n)).take 100) (7 * d + 1 + 1 + 1 + 1 + 1 + 1) (tp2 q n i) := Ends.step (by simp [tp2]) (by simp [tp2]) (by simp [tp2]) (by have := tp_sum q n i; rw [w64_of (i + 1) (by omega)] at this; exact this) s3
    have s1 : Ends (tpC n) ((toldS (.int n)).take 100) (7 * d + 1 + 1 + 1 + 1 + 1 + 1 + 1) (tp1 q n i) := Ends.step (by simp [tp1]) (by simp [tp1]) (by simp [tp1]) (tp_not q n i) s2
    have s0 : Ends (tpC n) ((toldS (.int n)).take 100) (7 * d + 1 + 1 + 1 + 1 + 1 + 1 + 1 + 1) (tpY q n i) := Ends.step (by simp [tpY]) (by simp [tpY]) (by simp [tpY]) (F := 21) (by rw [tp_test, decide_eq_true (by omega)]; exact tp_yes q n i) s1
    rw [show 7 * (d + 1) + 1 = 7 * d + 1 + 1 + 1 + 1 + 1 + 1 + 1 + 1 by omega]
    exact s0
theorem tp_all (d : Nat) (hd : d < 600) : Ends (tpC d) ((toldS (.int d)).take 100) (7 * d + 2) (startS (tpC d)) :=
  Ends.step (by simp [startS]) (by simp [startS]) (by simp [startS]) (tp_start d) (tp_ends d (by omega) d 0 0 (by omega) (by omega))
end Go.Proofs.YtlobegpjenabaaaGreatDoor
