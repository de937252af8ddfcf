/- Frames: its programs, as they run. -/
import Derived.Test.YtlobegpjenabaaaGreatDoorK36
namespace Go.Proofs.YtlobegpjenabaaaGreatDoor
open Go.RowKit
set_option linter.unusedSimpArgs false
set_option linter.unusedVariables false

/-- (define (make n) (lambda (d) (set! n (+ n d)) n)) (define p (make <a>)) (define q (make <b>)) (p 1) (q 10) (p 100) (cons (p 0) (q 0)) -/
def FrCX (ta tb : List UInt8) : List Sx := [.lst [.tok [100, 101, 102, 105, 110, 101], .lst [.tok [109, 97, 107, 101], .tok [110]], .lst [.tok [108, 97, 109, 98, 100, 97], .lst [.tok [100]], .lst [.tok [115, 101, 116, 33], .tok [110], .lst [.tok [43], .tok [110], .tok [100]]], .tok [110]]], .lst [.tok [100, 101, 102, 105, 110, 101], .tok [112], .lst [.tok [109, 97, 107, 101], .tok ta]], .lst [.tok [100, 101, 102, 105, 110, 101], .tok [113], .lst [.tok [109, 97, 107, 101], .tok tb]], .lst [.tok [112], .tok [49]], .lst [.tok [113], .tok [49, 48]], .lst [.tok [112], .tok [49, 48, 48]], .lst [.tok [99, 111, 110, 115], .lst [.tok [112], .tok [48]], .lst [.tok [113], .tok [48]]]]
def FrCD (da db : D) : List D := [lst [sym [100, 101, 102, 105, 110, 101], lst [sym [109, 97, 107, 101], sym [110]], lst [sym [108, 97, 109, 98, 100, 97], lst [sym [100]], lst [sym [115, 101, 116, 33], sym [110], lst [sym [43], sym [110], sym [100]]], sym [110]]], lst [sym [100, 101, 102, 105, 110, 101], sym [112], lst [sym [109, 97, 107, 101], da]], lst [sym [100, 101, 102, 105, 110, 101], sym [113], lst [sym [109, 97, 107, 101], db]], lst [sym [112], num (1)], lst [sym [113], num (10)], lst [sym [112], num (100)], lst [sym [99, 111, 110, 115], lst [sym [112], num (0)], lst [sym [113], num (0)]]]
def FrCE (a b : Int) : List E := [.define [109, 97, 107, 101] (.lambda [109, 97, 107, 101] [[110]] (.lambda [] [[100]] (.seq [.set [110] (.apply [.var [43], .var [110], .var [100]]), .var [110]]))), .define [112] (.apply [.var [109, 97, 107, 101], .const (num a)]), .define [113] (.apply [.var [109, 97, 107, 101], .const (num b)]), .apply [.var [112], .const (num (1))], .apply [.var [113], .const (num (10))], .apply [.var [112], .const (num (100))], .apply [.var [99, 111, 110, 115], .apply [.var [112], .const (num (0))], .apply [.var [113], .const (num (0))]]]
def FrCT (ta tb : List UInt8) : List UInt8 := [40, 100, 101, 102, 105, 110, 101, 32, 40, 109, 97, 107, 101, 32, 110, 41, 32, 40, 108, 97, 109, 98, 100, 97, 32, 40, 100, 41, 32, 40, 115, 101, 116, 33, 32, 110, 32, 40, 43, 32, 110, 32, 100, 41, 41, 32, 110, 41, 41, 32, 40, 100, 101, 102, 105, 110, 101, 32, 112, 32, 40, 109, 97, 107, 101, 32] ++ ta ++ [41, 41, 32, 40, 100, 101, 102, 105, 110, 101, 32, 113, 32, 40, 109, 97, 107, 101, 32] ++ tb ++ [41, 41, 32, 40, 112, 32, 49, 41, 32, 40, 113, 32, 49, 48, 41, 32, 40, 112, 32, 49, 48, 48, 41, 32, 40, 99, 111, 110, 115, 32, 40, 112, 32, 48, 41, 32, 40, 113, 32, 48, 41, 41]
theorem FrC_text (ta tb : List UInt8) : prF (FrCX ta tb) = FrCT ta tb := by simp [FrCX, FrCT, prF, prS, prL, prT, prR]
set_option maxRecDepth 100000 in
theorem comp_FrC (a b : Int) (ha : Small a) (hb : Small b) : Comp (FrCT (Lib.itoa a) (Lib.itoa b)) 3 (codeS (FrCE a b)) := by
  have la := itoa_lenS a ha
  have ka := itoa_okT a ha
  have lb := itoa_lenS b hb
  have kb := itoa_okT b hb
  refine comp_of (FrCX (Lib.itoa a) (Lib.itoa b)) (FrCE a b) 3 (FrC_text _ _).symm (by rw [FrC_text]; simp [FrCT]; omega) ?_ (FrCD (num a) (num b)) ?_ (by kernel_rfl) (by kernel_rfl) ?_
  · unfold FrCX
    repeat' first | with_reducible exact ka | with_reducible exact kb | with_reducible exact okL_nil _ | with_reducible apply okL_cons | with_reducible apply okS_lst (by decide) | with_reducible apply okS_quo (by decide) | with_reducible apply okS_tok | kernel_rfl
  · have : datL (FrCX (Lib.itoa a) (Lib.itoa b)) = FrCD ((tokD (Lib.itoa a)).getD (sym [])) ((tokD (Lib.itoa b)).getD (sym [])) := by kernel_rfl
    rw [this, tokD_itoa a ha, tokD_itoa b hb]; rfl
  · have e : cdOk 3 (codeS (FrCE a b)) = csOk 3 [some (num a), some (num b), some (num (1)), some (num (10)), some (num (100)), some (num (0)), some (num (0))] := by kernel_rfl
    rw [e]
    repeat' first | with_reducible exact csOk_nil _ | with_reducible apply csOk_some | with_reducible apply csOk_none | with_reducible exact dOk_num (Small.in ha) | with_reducible exact dOk_num (Small.in hb) | kernel_rfl
set_option maxRecDepth 100000 in
theorem says_FrC (a b : Int) (ha : Small a) (hb : Small b) : Says (FrCT (Lib.itoa a) (Lib.itoa b)) 5000 ((toldS (.pair 0 (.int (w64 (w64 (w64 (a + 1) + 100) + 0))) (.int (w64 (w64 (b + 10) + 0))))).take 100) [] :=
  says_of' (comp_FrC a b ha hb) [.int a, .int b, .int (1), .int (10), .int (100), .int (0), .int (0)] (by kernel_rfl) 3000 (by kernel_rfl)
/-- (define x <a>) (define (f) (define x <b>) (set! x (+ x 1)) x) (cons (f) x) -/
def FrSX (ta tb : List UInt8) : List Sx := [.lst [.tok [100, 101, 102, 105, 110, 101], .tok [120], .tok ta], .lst [.tok [100, 101, 102, 105, 110, 101], .lst [.tok [102]], .lst [.tok [100, 101, 102, 105, 110, 101], .tok [120], .tok tb], .lst [.tok [115, 101, 116, 33], .tok [120], .lst [.tok [43], .tok [120], .tok [49]]], .tok [120]], .lst [.tok [99, 111, 110, 115], .lst [.tok [102]], .tok [120]]]
def FrSD (da db : D) : List D := [lst [sym [100, 101, 102, 105, 110, 101], sym [120], da], lst [sym [100, 101, 102, 105, 110, 101], lst [sym [102]], lst [sym [100, 101, 102, 105, 110, 101], sym [120], db], lst [sym [115, 101, 116, 33], sym [120], lst [sym [43], sym [120], num (1)]], sym [120]], lst [sym [99, 111, 110, 115], lst [sym [102]], sym [120]]]
def FrSE (a b : Int) : List E := [.define [120] (.const (num a)), .define [102] (.lambda [102] [] (.seq [.define [120] (.const (num b)), .set [120] (.apply [.var [43], .var [120], .const (num (1))]), .var [120]])), .apply [.var [99, 111, 110, 115], .apply [.var [102]], .var [120]]]
def FrST (ta tb : List UInt8) : List UInt8 := [40, 100, 101, 102, 105, 110, 101, 32, 120, 32] ++ ta ++ [41, 32, 40, 100, 101, 102, 105, 110, 101, 32, 40, 102, 41, 32, 40, 100, 101, 102, 105, 110, 101, 32, 120, 32] ++ tb ++ [41, 32, 40, 115, 101, 116, 33, 32, 120, 32, 40, 43, 32, 120, 32, 49, 41, 41, 32, 120, 41, 32, 40, 99, 111, 110, 115, 32, 40, 102, 41, 32, 120, 41]
theorem FrS_text (ta tb : List UInt8) : prF (FrSX ta tb) = FrST ta tb := by simp [FrSX, FrST, prF, prS, prL, prT, prR]
set_option maxRecDepth 100000 in
theorem comp_FrS (a b : Int) (ha : Small a) (hb : Small b) : Comp (FrST (Lib.itoa a) (Lib.itoa b)) 3 (codeS (FrSE a b)) := by
  have la := itoa_lenS a ha
  have ka := itoa_okT a ha
  have lb := itoa_lenS b hb
  have kb := itoa_okT b hb
  refine comp_of (FrSX (Lib.itoa a) (Lib.itoa b)) (FrSE a b) 3 (FrS_text _ _).symm (by rw [FrS_text]; simp [FrST]; omega) ?_ (FrSD (num a) (num b)) ?_ (by kernel_rfl) (by kernel_rfl) ?_
  · unfold FrSX
    repeat' first | with_reducible exact ka | with_reducible exact kb | with_reducible exact okL_nil _ | with_reducible apply okL_cons | with_reducible apply okS_lst (by decide) | with_reducible apply okS_quo (by decide) | with_reducible apply okS_tok | kernel_rfl
  · have : datL (FrSX (Lib.itoa a) (Lib.itoa b)) = FrSD ((tokD (Lib.itoa a)).getD (sym [])) ((tokD (Lib.itoa b)).getD (sym [])) := by kernel_rfl
    rw [this, tokD_itoa a ha, tokD_itoa b hb]; rfl
  · have e : cdOk 3 (codeS (FrSE a b)) = csOk 3 [some (num a), some (num b), some (num (1))] := by kernel_rfl
    rw [e]
    repeat' first | with_reducible exact csOk_nil _ | with_reducible apply csOk_some | with_reducible apply csOk_none | with_reducible exact dOk_num (Small.in ha) | with_reducible exact dOk_num (Small.in hb) | kernel_rfl
set_option maxRecDepth 100000 in
theorem says_FrS (a b : Int) (ha : Small a) (hb : Small b) : Says (FrST (Lib.itoa a) (Lib.itoa b)) 5000 ((toldS (.pair 0 (.int (w64 (b + 1))) (.int a))).take 100) [] :=
  says_of' (comp_FrS a b ha hb) [.int a, .int b, .int (1)] (by kernel_rfl) 3000 (by kernel_rfl)
/-- (define x <a>) (let ((x <b>) (y x)) (cons x y)) -/
def FrIX (ta tb : List UInt8) : List Sx := [.lst [.tok [100, 101, 102, 105, 110, 101], .tok [120], .tok ta], .lst [.tok [108, 101, 116], .lst [.lst [.tok [120], .tok tb], .lst [.tok [121], .tok [120]]], .lst [.tok [99, 111, 110, 115], .tok [120], .tok [121]]]]
def FrID (da db : D) : List D := [lst [sym [100, 101, 102, 105, 110, 101], sym [120], da], lst [sym [108, 101, 116], lst [lst [sym [120], db], lst [sym [121], sym [120]]], lst [sym [99, 111, 110, 115], sym [120], sym [121]]]]
def FrIE (a b : Int) : List E := [.define [120] (.const (num a)), .apply [.lambda [] [[120], [121]] (.apply [.var [99, 111, 110, 115], .var [120], .var [121]]), .const (num b), .var [120]]]
def FrIT (ta tb : List UInt8) : List UInt8 := [40, 100, 101, 102, 105, 110, 101, 32, 120, 32] ++ ta ++ [41, 32, 40, 108, 101, 116, 32, 40, 40, 120, 32] ++ tb ++ [41, 32, 40, 121, 32, 120, 41, 41, 32, 40, 99, 111, 110, 115, 32, 120, 32, 121, 41, 41]
theorem FrI_text (ta tb : List UInt8) : prF (FrIX ta tb) = FrIT ta tb := by simp [FrIX, FrIT, prF, prS, prL, prT, prR]
set_option maxRecDepth 100000 in
theorem comp_FrI (a b : Int) (ha : Small a) (hb : Small b) : Comp (FrIT (Lib.itoa a) (Lib.itoa b)) 3 (codeS (FrIE a b)) := by
  have la := itoa_lenS a ha
  have ka := itoa_okT a ha
  have lb := itoa_lenS b hb
  have kb := itoa_okT b hb
  refine comp_of (FrIX (Lib.itoa a) (Lib.itoa b)) (FrIE a b) 3 (FrI_text _ _).symm (by rw [FrI_text]; simp [FrIT]; omega) ?_ (FrID (num a) (num b)) ?_ (by kernel_rfl) (by kernel_rfl) ?_
  · unfold FrIX
    repeat' first | with_reducible exact ka | with_reducible exact kb | with_reducible exact okL_nil _ | with_reducible apply okL_cons | with_reducible apply okS_lst (by decide) | with_reducible apply okS_quo (by decide) | with_reducible apply okS_tok | kernel_rfl
  · have : datL (FrIX (Lib.itoa a) (Lib.itoa b)) = FrID ((tokD (Lib.itoa a)).getD (sym [])) ((tokD (Lib.itoa b)).getD (sym [])) := by kernel_rfl
    rw [this, tokD_itoa a ha, tokD_itoa b hb]; rfl
  · have e : cdOk 3 (codeS (FrIE a b)) = csOk 3 [some (num a), some (num b)] := by kernel_rfl
    rw [e]
    repeat' first | with_reducible exact csOk_nil _ | with_reducible apply csOk_some | with_reducible apply csOk_none | with_reducible exact dOk_num (Small.in ha) | with_reducible exact dOk_num (Small.in hb) | kernel_rfl
set_option maxRecDepth 100000 in
theorem says_FrI (a b : Int) (ha : Small a) (hb : Small b) : Says (FrIT (Lib.itoa a) (Lib.itoa b)) 5000 ((toldS (.pair 0 (.int b) (.int a))).take 100) [] :=
  says_of' (comp_FrI a b ha hb) [.int a, .int b] (by kernel_rfl) 3000 (by kernel_rfl)
/-- (define + -) (+ <a> <b>) -/
def FrOX (ta tb : List UInt8) : List Sx := [.lst [.tok [100, 101, 102, 105, 110, 101], .tok [43], .tok [45]], .lst [.tok [43], .tok ta, .tok tb]]
def FrOD (da db : D) : List D := [lst [sym [100, 101, 102, 105, 110, 101], sym [43], sym [45]], lst [sym [43], da, db]]
def FrOE (a b : Int) : List E := [.define [43] (.var [45]), .apply [.var [43], .const (num a), .const (num b)]]
def FrOT (ta tb : List UInt8) : List UInt8 := [40, 100, 101, 102, 105, 110, 101, 32, 43, 32, 45, 41, 32, 40, 43, 32] ++ ta ++ [32] ++ tb ++ [41]
theorem FrO_text (ta tb : List UInt8) : prF (FrOX ta tb) = FrOT ta tb := by simp [FrOX, FrOT, prF, prS, prL, prT, prR]
set_option maxRecDepth 100000 in
theorem comp_FrO (a b : Int) (ha : Small a) (hb : Small b) : Comp (FrOT (Lib.itoa a) (Lib.itoa b)) 3 (codeS (FrOE a b)) := by
  have la := itoa_lenS a ha
  have ka := itoa_okT a ha
  have lb := itoa_lenS b hb
  have kb := itoa_okT b hb
  refine comp_of (FrOX (Lib.itoa a) (Lib.itoa b)) (FrOE a b) 3 (FrO_text _ _).symm (by rw [FrO_text]; simp [FrOT]; omega) ?_ (FrOD (num a) (num b)) ?_ (by kernel_rfl) (by kernel_rfl) ?_
  · unfold FrOX
    repeat' first | with_reducible exact ka | with_reducible exact kb | with_reducible exact okL_nil _ | with_reducible apply okL_cons | with_reducible apply okS_lst (by decide) | with_reducible apply okS_quo (by decide) | with_reducible apply okS_tok | kernel_rfl
  · have : datL (FrOX (Lib.itoa a) (Lib.itoa b)) = FrOD ((tokD (Lib.itoa a)).getD (sym [])) ((tokD (Lib.itoa b)).getD (sym [])) := by kernel_rfl
    rw [this, tokD_itoa a ha, tokD_itoa b hb]; rfl
  · have e : cdOk 3 (codeS (FrOE a b)) = csOk 3 [some (num a), some (num b)] := by kernel_rfl
    rw [e]
    repeat' first | with_reducible exact csOk_nil _ | with_reducible apply csOk_some | with_reducible apply csOk_none | with_reducible exact dOk_num (Small.in ha) | with_reducible exact dOk_num (Small.in hb) | kernel_rfl
set_option maxRecDepth 100000 in
theorem says_FrO (a b : Int) (ha : Small a) (hb : Small b) : Says (FrOT (Lib.itoa a) (Lib.itoa b)) 5000 ((toldS (.int (w64 (a - b)))).take 100) [] :=
  says_of' (comp_FrO a b ha hb) [.int a, .int b] (by kernel_rfl) 3000 (by kernel_rfl)
end Go.Proofs.YtlobegpjenabaaaGreatDoor
