/- Kept and Taken: their programs, as they run. -/
import Derived.Test.YtlobegpjenabaaaGreatDoorQKpGen
namespace Go.Proofs.YtlobegpjenabaaaGreatDoor
open Go.RowKit
set_option linter.unusedSimpArgs false
set_option linter.unusedVariables false

/-- (define k #f) (define n 0) (define (list3 p q r) (cons p (cons q (cons r '())))) (display (list3 <a> (call/cc (lambda (c) (set! k c) <b>)) (begin (set! n (+ n 1)) (* n <c>)))) (if (< n 3) (k (+ n <b>)) n) -/
def KptX (ta tb tc : List UInt8) : List Sx := [.lst [.tok [100, 101, 102, 105, 110, 101], .tok [107], .tok [35, 102]], .lst [.tok [100, 101, 102, 105, 110, 101], .tok [110], .tok [48]], .lst [.tok [100, 101, 102, 105, 110, 101], .lst [.tok [108, 105, 115, 116, 51], .tok [112], .tok [113], .tok [114]], .lst [.tok [99, 111, 110, 115], .tok [112], .lst [.tok [99, 111, 110, 115], .tok [113], .lst [.tok [99, 111, 110, 115], .tok [114], .quo (.lst [])]]]], .lst [.tok [100, 105, 115, 112, 108, 97, 121], .lst [.tok [108, 105, 115, 116, 51], .tok ta, .lst [.tok [99, 97, 108, 108, 47, 99, 99], .lst [.tok [108, 97, 109, 98, 100, 97], .lst [.tok [99]], .lst [.tok [115, 101, 116, 33], .tok [107], .tok [99]], .tok tb]], .lst [.tok [98, 101, 103, 105, 110], .lst [.tok [115, 101, 116, 33], .tok [110], .lst [.tok [43], .tok [110], .tok [49]]], .lst [.tok [42], .tok [110], .tok tc]]]], .lst [.tok [105, 102], .lst [.tok [60], .tok [110], .tok [51]], .lst [.tok [107], .lst [.tok [43], .tok [110], .tok tb]], .tok [110]]]
def KptD (da db dc : D) : List D := [lst [sym [100, 101, 102, 105, 110, 101], sym [107], boo false], lst [sym [100, 101, 102, 105, 110, 101], sym [110], num (0)], lst [sym [100, 101, 102, 105, 110, 101], lst [sym [108, 105, 115, 116, 51], sym [112], sym [113], sym [114]], lst [sym [99, 111, 110, 115], sym [112], lst [sym [99, 111, 110, 115], sym [113], lst [sym [99, 111, 110, 115], sym [114], lst [sym qsym, lst []]]]]], lst [sym [100, 105, 115, 112, 108, 97, 121], lst [sym [108, 105, 115, 116, 51], da, lst [sym [99, 97, 108, 108, 47, 99, 99], lst [sym [108, 97, 109, 98, 100, 97], lst [sym [99]], lst [sym [115, 101, 116, 33], sym [107], sym [99]], db]], lst [sym [98, 101, 103, 105, 110], lst [sym [115, 101, 116, 33], sym [110], lst [sym [43], sym [110], num (1)]], lst [sym [42], sym [110], dc]]]], lst [sym [105, 102], lst [sym [60], sym [110], num (3)], lst [sym [107], lst [sym [43], sym [110], db]], sym [110]]]
def KptE (a b c : Int) : List E := [.define [107] (.const (boo false)), .define [110] (.const (num (0))), .define [108, 105, 115, 116, 51] (.lambda [108, 105, 115, 116, 51] [[112], [113], [114]] (.apply [.var [99, 111, 110, 115], .var [112], .apply [.var [99, 111, 110, 115], .var [113], .apply [.var [99, 111, 110, 115], .var [114], .const (lst [])]]])), .apply [.var [100, 105, 115, 112, 108, 97, 121], .apply [.var [108, 105, 115, 116, 51], .const (num a), .apply [.var [99, 97, 108, 108, 47, 99, 99], .lambda [] [[99]] (.seq [.set [107] (.var [99]), .const (num b)])], .seq [.set [110] (.apply [.var [43], .var [110], .const (num (1))]), .apply [.var [42], .var [110], .const (num c)]]]], .ite (.apply [.var [60], .var [110], .const (num (3))]) (.apply [.var [107], .apply [.var [43], .var [110], .const (num b)]]) (.var [110])]
def KptT (ta tb tc : List UInt8) : List UInt8 := [40, 100, 101, 102, 105, 110, 101, 32, 107, 32, 35, 102, 41, 32, 40, 100, 101, 102, 105, 110, 101, 32, 110, 32, 48, 41, 32, 40, 100, 101, 102, 105, 110, 101, 32, 40, 108, 105, 115, 116, 51, 32, 112, 32, 113, 32, 114, 41, 32, 40, 99, 111, 110, 115, 32, 112, 32, 40, 99, 111, 110, 115, 32, 113, 32, 40, 99, 111, 110, 115, 32, 114, 32, 39, 40, 41, 41, 41, 41, 41, 32, 40, 100, 105, 115, 112, 108, 97, 121, 32, 40, 108, 105, 115, 116, 51, 32] ++ ta ++ [32, 40, 99, 97, 108, 108, 47, 99, 99, 32, 40, 108, 97, 109, 98, 100, 97, 32, 40, 99, 41, 32, 40, 115, 101, 116, 33, 32, 107, 32, 99, 41, 32] ++ tb ++ [41, 41, 32, 40, 98, 101, 103, 105, 110, 32, 40, 115, 101, 116, 33, 32, 110, 32, 40, 43, 32, 110, 32, 49, 41, 41, 32, 40, 42, 32, 110, 32] ++ tc ++ [41, 41, 41, 41, 32, 40, 105, 102, 32, 40, 60, 32, 110, 32, 51, 41, 32, 40, 107, 32, 40, 43, 32, 110, 32] ++ tb ++ [41, 41, 32, 110, 41]
set_option maxRecDepth 100000 in
theorem Kpt_text (ta tb tc : List UInt8) : prF (KptX ta tb tc) = KptT ta tb tc := by simp [KptX, KptT, prF, prS, prL, prT, prR]
set_option maxRecDepth 100000 in
theorem comp_Kpt (a b c : Int) (ha : Small a) (hb : Small b) (hc : Small c) : Comp (KptT (Lib.itoa a) (Lib.itoa b) (Lib.itoa c)) 3 (codeS (KptE a b c)) := by
  have la := itoa_lenS a ha
  have ka := itoa_okT a ha
  have lb := itoa_lenS b hb
  have kb := itoa_okT b hb
  have lc := itoa_lenS c hc
  have kc := itoa_okT c hc
  refine comp_of (KptX (Lib.itoa a) (Lib.itoa b) (Lib.itoa c)) (KptE a b c) 3 (Kpt_text _ _ _).symm (by rw [Kpt_text]; simp [KptT]; omega) ?_ (KptD (num a) (num b) (num c)) ?_ (by kernel_rfl) (by kernel_rfl) ?_
  · unfold KptX
    repeat' first | with_reducible exact ka | with_reducible exact kb | with_reducible exact kc | with_reducible exact okL_nil _ | with_reducible apply okL_cons | with_reducible apply okS_lst (by decide) | with_reducible apply okS_quo (by decide) | with_reducible apply okS_tok | kernel_rfl
  · have : datL (KptX (Lib.itoa a) (Lib.itoa b) (Lib.itoa c)) = KptD ((tokD (Lib.itoa a)).getD (sym [])) ((tokD (Lib.itoa b)).getD (sym [])) ((tokD (Lib.itoa c)).getD (sym [])) := by kernel_rfl
    rw [this, tokD_itoa a ha, tokD_itoa b hb, tokD_itoa c hc]; rfl
  · have e : cdOk 3 (codeS (KptE a b c)) = csOk 3 [some (boo false), some (num (0)), some (num a), some (num (1)), some (num c), some (num (3)), some (num b), some (lst []), some (num b)] := by kernel_rfl
    rw [e]
    repeat' first | with_reducible exact csOk_nil _ | with_reducible apply csOk_some | with_reducible apply csOk_none | with_reducible exact dOk_num (Small.in ha) | with_reducible exact dOk_num (Small.in hb) | with_reducible exact dOk_num (Small.in hc) | kernel_rfl
set_option maxRecDepth 100000 in
theorem says_Kpt (a b c : Int) (ha : Small a) (hb : Small b) (hc : Small c) : Says (KptT (Lib.itoa a) (Lib.itoa b) (Lib.itoa c)) 5000 ((toldS (.int 3)).take 100) [(toldS (lstV [0, 0, 0] [a, b, w64 (1 * c)])).take 100, (toldS (lstV [0, 0, 0] [a, w64 (1 + b), w64 (2 * c)])).take 100, (toldS (lstV [0, 0, 0] [a, w64 (2 + b), w64 (3 * c)])).take 100] :=
  says_of' (comp_Kpt a b c ha hb hc) [.bool false, .int (0), .int a, .int (1), .int c, .int (3), .int b, .empty, .int b] (by kernel_rfl) 1000 (by kernel_rfl)
/-- (define k #f) (define n 0) (display (+ <a> (call/cc (lambda (c) (set! k c) 1)))) (set! n (+ n 1)) (if (< n <m>) (k (* n n)) 'end) -/
def TakX (ta tm : List UInt8) : List Sx := [.lst [.tok [100, 101, 102, 105, 110, 101], .tok [107], .tok [35, 102]], .lst [.tok [100, 101, 102, 105, 110, 101], .tok [110], .tok [48]], .lst [.tok [100, 105, 115, 112, 108, 97, 121], .lst [.tok [43], .tok ta, .lst [.tok [99, 97, 108, 108, 47, 99, 99], .lst [.tok [108, 97, 109, 98, 100, 97], .lst [.tok [99]], .lst [.tok [115, 101, 116, 33], .tok [107], .tok [99]], .tok [49]]]]], .lst [.tok [115, 101, 116, 33], .tok [110], .lst [.tok [43], .tok [110], .tok [49]]], .lst [.tok [105, 102], .lst [.tok [60], .tok [110], .tok tm], .lst [.tok [107], .lst [.tok [42], .tok [110], .tok [110]]], .quo (.tok [101, 110, 100])]]
def TakD (da dm : D) : List D := [lst [sym [100, 101, 102, 105, 110, 101], sym [107], boo false], lst [sym [100, 101, 102, 105, 110, 101], sym [110], num (0)], lst [sym [100, 105, 115, 112, 108, 97, 121], lst [sym [43], da, lst [sym [99, 97, 108, 108, 47, 99, 99], lst [sym [108, 97, 109, 98, 100, 97], lst [sym [99]], lst [sym [115, 101, 116, 33], sym [107], sym [99]], num (1)]]]], lst [sym [115, 101, 116, 33], sym [110], lst [sym [43], sym [110], num (1)]], lst [sym [105, 102], lst [sym [60], sym [110], dm], lst [sym [107], lst [sym [42], sym [110], sym [110]]], lst [sym qsym, sym [101, 110, 100]]]]
def TakE (a m : Int) : List E := [.define [107] (.const (boo false)), .define [110] (.const (num (0))), .apply [.var [100, 105, 115, 112, 108, 97, 121], .apply [.var [43], .const (num a), .apply [.var [99, 97, 108, 108, 47, 99, 99], .lambda [] [[99]] (.seq [.set [107] (.var [99]), .const (num (1))])]]], .set [110] (.apply [.var [43], .var [110], .const (num (1))]), .ite (.apply [.var [60], .var [110], .const (num m)]) (.apply [.var [107], .apply [.var [42], .var [110], .var [110]]]) (.const (sym [101, 110, 100]))]
def TakT (ta tm : List UInt8) : List UInt8 := [40, 100, 101, 102, 105, 110, 101, 32, 107, 32, 35, 102, 41, 32, 40, 100, 101, 102, 105, 110, 101, 32, 110, 32, 48, 41, 32, 40, 100, 105, 115, 112, 108, 97, 121, 32, 40, 43, 32] ++ ta ++ [32, 40, 99, 97, 108, 108, 47, 99, 99, 32, 40, 108, 97, 109, 98, 100, 97, 32, 40, 99, 41, 32, 40, 115, 101, 116, 33, 32, 107, 32, 99, 41, 32, 49, 41, 41, 41, 41, 32, 40, 115, 101, 116, 33, 32, 110, 32, 40, 43, 32, 110, 32, 49, 41, 41, 32, 40, 105, 102, 32, 40, 60, 32, 110, 32] ++ tm ++ [41, 32, 40, 107, 32, 40, 42, 32, 110, 32, 110, 41, 41, 32, 39, 101, 110, 100, 41]
set_option maxRecDepth 100000 in
theorem Tak_text (ta tm : List UInt8) : prF (TakX ta tm) = TakT ta tm := by simp [TakX, TakT, prF, prS, prL, prT, prR]
set_option maxRecDepth 100000 in
theorem comp_Tak (a m : Int) (ha : Small a) (hm : Small m) : Comp (TakT (Lib.itoa a) (Lib.itoa m)) 3 (codeS (TakE a m)) := by
  have la := itoa_lenS a ha
  have ka := itoa_okT a ha
  have lm := itoa_lenS m hm
  have km := itoa_okT m hm
  refine comp_of (TakX (Lib.itoa a) (Lib.itoa m)) (TakE a m) 3 (Tak_text _ _).symm (by rw [Tak_text]; simp [TakT]; omega) ?_ (TakD (num a) (num m)) ?_ (by kernel_rfl) (by kernel_rfl) ?_
  · unfold TakX
    repeat' first | with_reducible exact ka | with_reducible exact km | with_reducible exact okL_nil _ | with_reducible apply okL_cons | with_reducible apply okS_lst (by decide) | with_reducible apply okS_quo (by decide) | with_reducible apply okS_tok | kernel_rfl
  · have : datL (TakX (Lib.itoa a) (Lib.itoa m)) = TakD ((tokD (Lib.itoa a)).getD (sym [])) ((tokD (Lib.itoa m)).getD (sym [])) := by kernel_rfl
    rw [this, tokD_itoa a ha, tokD_itoa m hm]; rfl
  · have e : cdOk 3 (codeS (TakE a m)) = csOk 3 [some (boo false), some (num (0)), some (num a), some (num (1)), some (num m), some (sym [101, 110, 100]), some (num (1))] := by kernel_rfl
    rw [e]
    repeat' first | with_reducible exact csOk_nil _ | with_reducible apply csOk_some | with_reducible apply csOk_none | with_reducible exact dOk_num (Small.in ha) | with_reducible exact dOk_num (Small.in hm) | kernel_rfl
/-- What joins the output. -/
def takO (a : Int) (m : Nat) : List (List UInt8) := (List.range m).map fun (i : Nat) => (toldS (.int (w64 (a + (if i = 0 then 1 else (i : Int) * i))))).take 100
set_option maxRecDepth 1000000 in
set_option maxHeartbeats 4000000 in
theorem run_Tak (a : Int) (m : Nat) (h : m < 20) : (goS (cdOf (codeS (TakE a ((m + 1 : Nat) : Int))) [.bool false, .int 0, .int a, .int 1, .int ((m + 1 : Nat) : Int), .sym [101, 110, 100], .int 1]) 2000 (startS (cdOf (codeS (TakE a ((m + 1 : Nat) : Int))) [.bool false, .int 0, .int a, .int 1, .int ((m + 1 : Nat) : Int), .sym [101, 110, 100], .int 1])) 5000 0).map (fun r => r.2) = some (.done [101, 110, 100] (takO a (m + 1))) := by
  rcases m with _ | _ | _ | _ | _ | _ | _ | _ | _ | _ | _ | _ | _ | _ | _ | _ | _ | _ | _ | _ | m
  iterate 20 as_aux_lemma => kernel_rfl
  · omega
theorem says_Tak (a : Int) (m : Nat) (ha : Small a) (h : m < 20) : Says (TakT (Lib.itoa a) (Lib.itoa ((m + 1 : Nat) : Int))) 5000 [101, 110, 100] (takO a (m + 1)) :=
  says_of' (comp_Tak a ((m + 1 : Nat) : Int) ha ⟨by omega, by omega⟩) [.bool false, .int 0, .int a, .int 1, .int ((m + 1 : Nat) : Int), .sym [101, 110, 100], .int 1] (by kernel_rfl) 2000 (run_Tak a m h)
end Go.Proofs.YtlobegpjenabaaaGreatDoor
