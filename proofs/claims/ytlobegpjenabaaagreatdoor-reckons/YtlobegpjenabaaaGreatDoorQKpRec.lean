/- Reckons: its programs, as they run. -/
import Derived.Test.YtlobegpjenabaaaGreatDoorK36
namespace Go.Proofs.YtlobegpjenabaaaGreatDoor
open Go.RowKit
set_option linter.unusedSimpArgs false
set_option linter.unusedVariables false

/-- An application of a first procedure to two ints. -/
def opX (op : List UInt8) (a b : Int) : List Sx := [.lst [.tok op, .tok (Lib.itoa a), .tok (Lib.itoa b)]]
def opE (op : List UInt8) (a b : Int) : List E := [.apply [.var op, .const (num a), .const (num b)]]
theorem opX_text (op : List UInt8) (a b : Int) : prF (opX op a b) = [40] ++ op ++ ([32] ++ Lib.itoa a ++ [32] ++ Lib.itoa b ++ [41]) := by
  simp [opX, prF, prS, prL, prT, prR]
set_option maxRecDepth 100000 in
theorem comp_plus (a b : Int) (ha : Small a) (hb : Small b) : Comp ([40] ++ [43] ++ ([32] ++ Lib.itoa a ++ [32] ++ Lib.itoa b ++ [41])) 2 (codeS (opE [43] a b)) := by
  have h1 := itoa_lenS a ha
  have h2 := itoa_lenS b hb
  have h3 : -9223372036854775808 ≤ a ∧ a ≤ 9223372036854775807 := by have := ha.1; have := ha.2; omega
  have h4 : -9223372036854775808 ≤ b ∧ b ≤ 9223372036854775807 := by have := hb.1; have := hb.2; omega
  refine comp_of (opX [43] a b) (opE [43] a b) 2 (opX_text _ a b).symm (by rw [opX_text]; simp; omega) ?_ [lst [sym [43], num a, num b]] ?_ ?_ ?_ ?_
  · show (true && (okT (Lib.itoa a) && (okT (Lib.itoa b) && true)) && true) = true
    rw [itoa_okT a ha, itoa_okT b hb]; rfl
  · show [Go.Proofs.YtlobegpjenabaaaGreatDoor.lst [(tokD [43]).getD (sym []), (tokD (Lib.itoa a)).getD (sym []), (tokD (Lib.itoa b)).getD (sym [])]] = _
    rw [tokD_itoa a ha, tokD_itoa b hb]; rfl
  · kernel_rfl
  · kernel_rfl
  · show ((decide (-9223372036854775808 ≤ a) && decide (a ≤ 9223372036854775807)) && ((decide (-9223372036854775808 ≤ b) && decide (b ≤ 9223372036854775807)) && true)) = true
    simp [h3, h4]
set_option maxRecDepth 100000 in
theorem says_plus (a b : Int) (ha : Small a) (hb : Small b) : Says ([40] ++ [43] ++ ([32] ++ Lib.itoa a ++ [32] ++ Lib.itoa b ++ [41])) 5000 ((toldS (.int (w64 (a + b)))).take 100) [] :=
  says_of (comp_plus a b ha hb) [.int a, .int b] (by kernel_rfl) 11 1 (by kernel_rfl)
set_option maxRecDepth 100000 in
theorem comp_minus (a b : Int) (ha : Small a) (hb : Small b) : Comp ([40] ++ [45] ++ ([32] ++ Lib.itoa a ++ [32] ++ Lib.itoa b ++ [41])) 2 (codeS (opE [45] a b)) := by
  have h1 := itoa_lenS a ha
  have h2 := itoa_lenS b hb
  have h3 : -9223372036854775808 ≤ a ∧ a ≤ 9223372036854775807 := by have := ha.1; have := ha.2; omega
  have h4 : -9223372036854775808 ≤ b ∧ b ≤ 9223372036854775807 := by have := hb.1; have := hb.2; omega
  refine comp_of (opX [45] a b) (opE [45] a b) 2 (opX_text _ a b).symm (by rw [opX_text]; simp; omega) ?_ [lst [sym [45], num a, num b]] ?_ ?_ ?_ ?_
  · show (true && (okT (Lib.itoa a) && (okT (Lib.itoa b) && true)) && true) = true
    rw [itoa_okT a ha, itoa_okT b hb]; rfl
  · show [Go.Proofs.YtlobegpjenabaaaGreatDoor.lst [(tokD [45]).getD (sym []), (tokD (Lib.itoa a)).getD (sym []), (tokD (Lib.itoa b)).getD (sym [])]] = _
    rw [tokD_itoa a ha, tokD_itoa b hb]; rfl
  · kernel_rfl
  · kernel_rfl
  · show ((decide (-9223372036854775808 ≤ a) && decide (a ≤ 9223372036854775807)) && ((decide (-9223372036854775808 ≤ b) && decide (b ≤ 9223372036854775807)) && true)) = true
    simp [h3, h4]
set_option maxRecDepth 100000 in
theorem says_minus (a b : Int) (ha : Small a) (hb : Small b) : Says ([40] ++ [45] ++ ([32] ++ Lib.itoa a ++ [32] ++ Lib.itoa b ++ [41])) 5000 ((toldS (.int (w64 (a - b)))).take 100) [] :=
  says_of (comp_minus a b ha hb) [.int a, .int b] (by kernel_rfl) 11 1 (by kernel_rfl)
set_option maxRecDepth 100000 in
theorem comp_times (a b : Int) (ha : Small a) (hb : Small b) : Comp ([40] ++ [42] ++ ([32] ++ Lib.itoa a ++ [32] ++ Lib.itoa b ++ [41])) 2 (codeS (opE [42] a b)) := by
  have h1 := itoa_lenS a ha
  have h2 := itoa_lenS b hb
  have h3 : -9223372036854775808 ≤ a ∧ a ≤ 9223372036854775807 := by have := ha.1; have := ha.2; omega
  have h4 : -9223372036854775808 ≤ b ∧ b ≤ 9223372036854775807 := by have := hb.1; have := hb.2; omega
  refine comp_of (opX [42] a b) (opE [42] a b) 2 (opX_text _ a b).symm (by rw [opX_text]; simp; omega) ?_ [lst [sym [42], num a, num b]] ?_ ?_ ?_ ?_
  · show (true && (okT (Lib.itoa a) && (okT (Lib.itoa b) && true)) && true) = true
    rw [itoa_okT a ha, itoa_okT b hb]; rfl
  · show [Go.Proofs.YtlobegpjenabaaaGreatDoor.lst [(tokD [42]).getD (sym []), (tokD (Lib.itoa a)).getD (sym []), (tokD (Lib.itoa b)).getD (sym [])]] = _
    rw [tokD_itoa a ha, tokD_itoa b hb]; rfl
  · kernel_rfl
  · kernel_rfl
  · show ((decide (-9223372036854775808 ≤ a) && decide (a ≤ 9223372036854775807)) && ((decide (-9223372036854775808 ≤ b) && decide (b ≤ 9223372036854775807)) && true)) = true
    simp [h3, h4]
set_option maxRecDepth 100000 in
theorem says_times (a b : Int) (ha : Small a) (hb : Small b) : Says ([40] ++ [42] ++ ([32] ++ Lib.itoa a ++ [32] ++ Lib.itoa b ++ [41])) 5000 ((toldS (.int (w64 (a * b)))).take 100) [] :=
  says_of (comp_times a b ha hb) [.int a, .int b] (by kernel_rfl) 11 1 (by kernel_rfl)
set_option maxRecDepth 100000 in
theorem comp_less (a b : Int) (ha : Small a) (hb : Small b) : Comp ([40] ++ [60] ++ ([32] ++ Lib.itoa a ++ [32] ++ Lib.itoa b ++ [41])) 2 (codeS (opE [60] a b)) := by
  have h1 := itoa_lenS a ha
  have h2 := itoa_lenS b hb
  have h3 : -9223372036854775808 ≤ a ∧ a ≤ 9223372036854775807 := by have := ha.1; have := ha.2; omega
  have h4 : -9223372036854775808 ≤ b ∧ b ≤ 9223372036854775807 := by have := hb.1; have := hb.2; omega
  refine comp_of (opX [60] a b) (opE [60] a b) 2 (opX_text _ a b).symm (by rw [opX_text]; simp; omega) ?_ [lst [sym [60], num a, num b]] ?_ ?_ ?_ ?_
  · show (true && (okT (Lib.itoa a) && (okT (Lib.itoa b) && true)) && true) = true
    rw [itoa_okT a ha, itoa_okT b hb]; rfl
  · show [Go.Proofs.YtlobegpjenabaaaGreatDoor.lst [(tokD [60]).getD (sym []), (tokD (Lib.itoa a)).getD (sym []), (tokD (Lib.itoa b)).getD (sym [])]] = _
    rw [tokD_itoa a ha, tokD_itoa b hb]; rfl
  · kernel_rfl
  · kernel_rfl
  · show ((decide (-9223372036854775808 ≤ a) && decide (a ≤ 9223372036854775807)) && ((decide (-9223372036854775808 ≤ b) && decide (b ≤ 9223372036854775807)) && true)) = true
    simp [h3, h4]
set_option maxRecDepth 100000 in
theorem says_less (a b : Int) (ha : Small a) (hb : Small b) : Says ([40] ++ [60] ++ ([32] ++ Lib.itoa a ++ [32] ++ Lib.itoa b ++ [41])) 5000 ((toldS (.bool (decide (a < b)))).take 100) [] :=
  says_of (comp_less a b ha hb) [.int a, .int b] (by kernel_rfl) 11 1 (by kernel_rfl)
set_option maxRecDepth 100000 in
theorem comp_equal (a b : Int) (ha : Small a) (hb : Small b) : Comp ([40] ++ [61] ++ ([32] ++ Lib.itoa a ++ [32] ++ Lib.itoa b ++ [41])) 2 (codeS (opE [61] a b)) := by
  have h1 := itoa_lenS a ha
  have h2 := itoa_lenS b hb
  have h3 : -9223372036854775808 ≤ a ∧ a ≤ 9223372036854775807 := by have := ha.1; have := ha.2; omega
  have h4 : -9223372036854775808 ≤ b ∧ b ≤ 9223372036854775807 := by have := hb.1; have := hb.2; omega
  refine comp_of (opX [61] a b) (opE [61] a b) 2 (opX_text _ a b).symm (by rw [opX_text]; simp; omega) ?_ [lst [sym [61], num a, num b]] ?_ ?_ ?_ ?_
  · show (true && (okT (Lib.itoa a) && (okT (Lib.itoa b) && true)) && true) = true
    rw [itoa_okT a ha, itoa_okT b hb]; rfl
  · show [Go.Proofs.YtlobegpjenabaaaGreatDoor.lst [(tokD [61]).getD (sym []), (tokD (Lib.itoa a)).getD (sym []), (tokD (Lib.itoa b)).getD (sym [])]] = _
    rw [tokD_itoa a ha, tokD_itoa b hb]; rfl
  · kernel_rfl
  · kernel_rfl
  · show ((decide (-9223372036854775808 ≤ a) && decide (a ≤ 9223372036854775807)) && ((decide (-9223372036854775808 ≤ b) && decide (b ≤ 9223372036854775807)) && true)) = true
    simp [h3, h4]
set_option maxRecDepth 100000 in
theorem says_equal (a b : Int) (ha : Small a) (hb : Small b) : Says ([40] ++ [61] ++ ([32] ++ Lib.itoa a ++ [32] ++ Lib.itoa b ++ [41])) 5000 ((toldS (.bool (a == b))).take 100) [] :=
  says_of (comp_equal a b ha hb) [.int a, .int b] (by kernel_rfl) 11 1 (by kernel_rfl)
set_option maxRecDepth 100000 in
theorem comp_same (a b : Int) (ha : Small a) (hb : Small b) : Comp ([40] ++ [101, 113, 63] ++ ([32] ++ Lib.itoa a ++ [32] ++ Lib.itoa b ++ [41])) 2 (codeS (opE [101, 113, 63] a b)) := by
  have h1 := itoa_lenS a ha
  have h2 := itoa_lenS b hb
  have h3 : -9223372036854775808 ≤ a ∧ a ≤ 9223372036854775807 := by have := ha.1; have := ha.2; omega
  have h4 : -9223372036854775808 ≤ b ∧ b ≤ 9223372036854775807 := by have := hb.1; have := hb.2; omega
  refine comp_of (opX [101, 113, 63] a b) (opE [101, 113, 63] a b) 2 (opX_text _ a b).symm (by rw [opX_text]; simp; omega) ?_ [lst [sym [101, 113, 63], num a, num b]] ?_ ?_ ?_ ?_
  · show (true && (okT (Lib.itoa a) && (okT (Lib.itoa b) && true)) && true) = true
    rw [itoa_okT a ha, itoa_okT b hb]; rfl
  · show [Go.Proofs.YtlobegpjenabaaaGreatDoor.lst [(tokD [101, 113, 63]).getD (sym []), (tokD (Lib.itoa a)).getD (sym []), (tokD (Lib.itoa b)).getD (sym [])]] = _
    rw [tokD_itoa a ha, tokD_itoa b hb]; rfl
  · kernel_rfl
  · kernel_rfl
  · show ((decide (-9223372036854775808 ≤ a) && decide (a ≤ 9223372036854775807)) && ((decide (-9223372036854775808 ≤ b) && decide (b ≤ 9223372036854775807)) && true)) = true
    simp [h3, h4]
set_option maxRecDepth 100000 in
theorem says_same (a b : Int) (ha : Small a) (hb : Small b) : Says ([40] ++ [101, 113, 63] ++ ([32] ++ Lib.itoa a ++ [32] ++ Lib.itoa b ++ [41])) 5000 ((toldS (.bool (a == b))).take 100) [] :=
  says_of (comp_same a b ha hb) [.int a, .int b] (by kernel_rfl) 11 1 (by kernel_rfl)
/-- (define (f n x) (if (= n 0) x (f (- n 1) (* x 1000003)))) (f 7 t) -/
def R7X (t : List UInt8) : List Sx := [.lst [.tok [100, 101, 102, 105, 110, 101], .lst [.tok [102], .tok [110], .tok [120]], .lst [.tok [105, 102], .lst [.tok [61], .tok [110], .tok [48]], .tok [120], .lst [.tok [102], .lst [.tok [45], .tok [110], .tok [49]], .lst [.tok [42], .tok [120], .tok [49, 48, 48, 48, 48, 48, 51]]]]], .lst [.tok [102], .tok [55], .tok t]]
def R7D (d : D) : List D := [lst [sym [100, 101, 102, 105, 110, 101], lst [sym [102], sym [110], sym [120]], lst [sym [105, 102], lst [sym [61], sym [110], num (0)], sym [120], lst [sym [102], lst [sym [45], sym [110], num (1)], lst [sym [42], sym [120], num (1000003)]]]], lst [sym [102], num (7), d]]
def R7E (a : Int) : List E := [.define [102] (.lambda [102] [[110], [120]] (.ite (.apply [.var [61], .var [110], .const (num (0))]) (.var [120]) (.apply [.var [102], .apply [.var [45], .var [110], .const (num (1))], .apply [.var [42], .var [120], .const (num (1000003))]]))), .apply [.var [102], .const (num (7)), .const (num a)]]
def R7T : List UInt8 := [40, 100, 101, 102, 105, 110, 101, 32, 40, 102, 32, 110, 32, 120, 41, 32, 40, 105, 102, 32, 40, 61, 32, 110, 32, 48, 41, 32, 120, 32, 40, 102, 32, 40, 45, 32, 110, 32, 49, 41, 32, 40, 42, 32, 120, 32, 49, 48, 48, 48, 48, 48, 51, 41, 41, 41, 41, 32, 40, 102, 32, 55, 32]
theorem R7_text (t : List UInt8) : prF (R7X t) = R7T ++ t ++ [41] := by simp [R7X, R7T, prF, prS, prL, prT, prR]
set_option maxRecDepth 100000 in
theorem comp_R7 (a : Int) (ha : Small a) : Comp (R7T ++ Lib.itoa a ++ [41]) 2 (codeS (R7E a)) := by
  have h1 := itoa_lenS a ha
  have hk := itoa_okT a ha
  refine comp_of (R7X (Lib.itoa a)) (R7E a) 2 (R7_text _).symm (by rw [R7_text]; simp [R7T]; omega) ?_ (R7D (num a)) ?_ (by kernel_rfl) (by kernel_rfl) ?_
  · unfold R7X
    repeat' first | with_reducible exact hk | with_reducible exact okL_nil _ | with_reducible apply okL_cons | with_reducible apply okS_lst (by decide) | with_reducible apply okS_tok | kernel_rfl
  · have : datL (R7X (Lib.itoa a)) = R7D ((tokD (Lib.itoa a)).getD (sym [])) := by kernel_rfl
    rw [this, tokD_itoa a ha]; rfl
  · have e : cdOk 2 (codeS (R7E a)) = csOk 2 [some (num (7)), some (num a), some (num (0)), some (num (1)), some (num (1000003))] := by kernel_rfl
    rw [e]
    repeat' first | with_reducible exact csOk_nil _ | with_reducible apply csOk_some | with_reducible exact dOk_num (Small.in ha) | kernel_rfl
def mulN : Nat → Int → Int
  | 0, a => a
  | n + 1, a => mulN n (w64 (a * 1000003))
set_option maxRecDepth 100000 in
theorem says_R7 (a : Int) (ha : Small a) : Says (R7T ++ Lib.itoa a ++ [41]) 5000 ((toldS (.int (mulN 7 a))).take 100) [] :=
  says_of (comp_R7 a ha) [.int 7, .int a, .int 0, .int 1, .int 1000003] (by kernel_rfl) 400 30 (by kernel_rfl)
end Go.Proofs.YtlobegpjenabaaaGreatDoor
