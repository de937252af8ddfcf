/- Escapes: its programs, as they run. -/
import Derived.Test.YtlobegpjenabaaaGreatDoorQKpGen
namespace Go.Proofs.YtlobegpjenabaaaGreatDoor
open Go.RowKit
set_option linter.unusedSimpArgs false
set_option linter.unusedVariables false

theorem dOk_three {a b c : Int} (ha : Small a) (hb : Small b) (hc : Small c) : dOk 3 (lst [num a, num b, num c]) = true := dOk_ints 1 [a, b, c] (by intro k hk; simp at hk; rcases hk with rfl | rfl | rfl <;> assumption)
/-- (+ <a> (call/cc (lambda (k) (+ <b> <c>)))) -/
def EsAX (ta tb tc : List UInt8) : List Sx := [.lst [.tok [43], .tok ta, .lst [.tok [99, 97, 108, 108, 47, 99, 99], .lst [.tok [108, 97, 109, 98, 100, 97], .lst [.tok [107]], .lst [.tok [43], .tok tb, .tok tc]]]]]
def EsAD (da db dc : D) : List D := [lst [sym [43], da, lst [sym [99, 97, 108, 108, 47, 99, 99], lst [sym [108, 97, 109, 98, 100, 97], lst [sym [107]], lst [sym [43], db, dc]]]]]
def EsAE (a b c : Int) : List E := [.apply [.var [43], .const (num a), .apply [.var [99, 97, 108, 108, 47, 99, 99], .lambda [] [[107]] (.apply [.var [43], .const (num b), .const (num c)])]]]
def EsAT (ta tb tc : List UInt8) : List UInt8 := [40, 43, 32] ++ ta ++ [32, 40, 99, 97, 108, 108, 47, 99, 99, 32, 40, 108, 97, 109, 98, 100, 97, 32, 40, 107, 41, 32, 40, 43, 32] ++ tb ++ [32] ++ tc ++ [41, 41, 41, 41]
set_option maxRecDepth 100000 in
theorem EsA_text (ta tb tc : List UInt8) : prF (EsAX ta tb tc) = EsAT ta tb tc := by simp [EsAX, EsAT, prF, prS, prL, prT, prR]
set_option maxRecDepth 100000 in
theorem comp_EsA (a b c : Int) (ha : Small a) (hb : Small b) (hc : Small c) : Comp (EsAT (Lib.itoa a) (Lib.itoa b) (Lib.itoa c)) 3 (codeS (EsAE a b c)) := by
  have la := itoa_lenS a ha
  have ka := itoa_okT a ha
  have lb := itoa_lenS b hb
  have kb := itoa_okT b hb
  have lc := itoa_lenS c hc
  have kc := itoa_okT c hc
  refine comp_of (EsAX (Lib.itoa a) (Lib.itoa b) (Lib.itoa c)) (EsAE a b c) 3 (EsA_text _ _ _).symm (by rw [EsA_text]; simp [EsAT]; omega) ?_ (EsAD (num a) (num b) (num c)) ?_ (by kernel_rfl) (by kernel_rfl) ?_
  · unfold EsAX
    repeat' first | with_reducible exact ka | with_reducible exact kb | with_reducible exact kc | with_reducible exact okL_nil _ | with_reducible apply okL_cons | with_reducible apply okS_lst (by decide) | with_reducible apply okS_quo (by decide) | with_reducible apply okS_tok | kernel_rfl
  · have : datL (EsAX (Lib.itoa a) (Lib.itoa b) (Lib.itoa c)) = EsAD ((tokD (Lib.itoa a)).getD (sym [])) ((tokD (Lib.itoa b)).getD (sym [])) ((tokD (Lib.itoa c)).getD (sym [])) := by kernel_rfl
    rw [this, tokD_itoa a ha, tokD_itoa b hb, tokD_itoa c hc]; rfl
  · have e : cdOk 3 (codeS (EsAE a b c)) = csOk 3 [some (num a), some (num b), some (num c)] := by kernel_rfl
    rw [e]
    repeat' first | with_reducible exact csOk_nil _ | with_reducible apply csOk_some | with_reducible apply csOk_none | with_reducible exact dOk_num (Small.in ha) | with_reducible exact dOk_num (Small.in hb) | with_reducible exact dOk_num (Small.in hc) | kernel_rfl
set_option maxRecDepth 100000 in
theorem says_EsA (a b c : Int) (ha : Small a) (hb : Small b) (hc : Small c) : Says (EsAT (Lib.itoa a) (Lib.itoa b) (Lib.itoa c)) 5000 ((toldS (.int (w64 (a + w64 (b + c))))).take 100) [] :=
  says_of' (comp_EsA a b c ha hb hc) [.int a, .int b, .int c] (by kernel_rfl) 3000 (by kernel_rfl)
/-- (+ <a> (call/cc (lambda (k) (+ <b> (car (cdr (cons 1 (k <c>)))))))) -/
def EsBX (ta tb tc : List UInt8) : List Sx := [.lst [.tok [43], .tok ta, .lst [.tok [99, 97, 108, 108, 47, 99, 99], .lst [.tok [108, 97, 109, 98, 100, 97], .lst [.tok [107]], .lst [.tok [43], .tok tb, .lst [.tok [99, 97, 114], .lst [.tok [99, 100, 114], .lst [.tok [99, 111, 110, 115], .tok [49], .lst [.tok [107], .tok tc]]]]]]]]]
def EsBD (da db dc : D) : List D := [lst [sym [43], da, lst [sym [99, 97, 108, 108, 47, 99, 99], lst [sym [108, 97, 109, 98, 100, 97], lst [sym [107]], lst [sym [43], db, lst [sym [99, 97, 114], lst [sym [99, 100, 114], lst [sym [99, 111, 110, 115], num (1), lst [sym [107], dc]]]]]]]]]
def EsBE (a b c : Int) : List E := [.apply [.var [43], .const (num a), .apply [.var [99, 97, 108, 108, 47, 99, 99], .lambda [] [[107]] (.apply [.var [43], .const (num b), .apply [.var [99, 97, 114], .apply [.var [99, 100, 114], .apply [.var [99, 111, 110, 115], .const (num (1)), .apply [.var [107], .const (num c)]]]]])]]]
def EsBT (ta tb tc : List UInt8) : List UInt8 := [40, 43, 32] ++ ta ++ [32, 40, 99, 97, 108, 108, 47, 99, 99, 32, 40, 108, 97, 109, 98, 100, 97, 32, 40, 107, 41, 32, 40, 43, 32] ++ tb ++ [32, 40, 99, 97, 114, 32, 40, 99, 100, 114, 32, 40, 99, 111, 110, 115, 32, 49, 32, 40, 107, 32] ++ tc ++ [41, 41, 41, 41, 41, 41, 41, 41]
set_option maxRecDepth 100000 in
theorem EsB_text (ta tb tc : List UInt8) : prF (EsBX ta tb tc) = EsBT ta tb tc := by simp [EsBX, EsBT, prF, prS, prL, prT, prR]
set_option maxRecDepth 100000 in
theorem comp_EsB (a b c : Int) (ha : Small a) (hb : Small b) (hc : Small c) : Comp (EsBT (Lib.itoa a) (Lib.itoa b) (Lib.itoa c)) 3 (codeS (EsBE a b c)) := by
  have la := itoa_lenS a ha
  have ka := itoa_okT a ha
  have lb := itoa_lenS b hb
  have kb := itoa_okT b hb
  have lc := itoa_lenS c hc
  have kc := itoa_okT c hc
  refine comp_of (EsBX (Lib.itoa a) (Lib.itoa b) (Lib.itoa c)) (EsBE a b c) 3 (EsB_text _ _ _).symm (by rw [EsB_text]; simp [EsBT]; omega) ?_ (EsBD (num a) (num b) (num c)) ?_ (by kernel_rfl) (by kernel_rfl) ?_
  · unfold EsBX
    repeat' first | with_reducible exact ka | with_reducible exact kb | with_reducible exact kc | with_reducible exact okL_nil _ | with_reducible apply okL_cons | with_reducible apply okS_lst (by decide) | with_reducible apply okS_quo (by decide) | with_reducible apply okS_tok | kernel_rfl
  · have : datL (EsBX (Lib.itoa a) (Lib.itoa b) (Lib.itoa c)) = EsBD ((tokD (Lib.itoa a)).getD (sym [])) ((tokD (Lib.itoa b)).getD (sym [])) ((tokD (Lib.itoa c)).getD (sym [])) := by kernel_rfl
    rw [this, tokD_itoa a ha, tokD_itoa b hb, tokD_itoa c hc]; rfl
  · have e : cdOk 3 (codeS (EsBE a b c)) = csOk 3 [some (num a), some (num b), some (num (1)), some (num c)] := by kernel_rfl
    rw [e]
    repeat' first | with_reducible exact csOk_nil _ | with_reducible apply csOk_some | with_reducible apply csOk_none | with_reducible exact dOk_num (Small.in ha) | with_reducible exact dOk_num (Small.in hb) | with_reducible exact dOk_num (Small.in hc) | kernel_rfl
set_option maxRecDepth 100000 in
theorem says_EsB (a b c : Int) (ha : Small a) (hb : Small b) (hc : Small c) : Says (EsBT (Lib.itoa a) (Lib.itoa b) (Lib.itoa c)) 5000 ((toldS (.int (w64 (a + c)))).take 100) [] :=
  says_of' (comp_EsB a b c ha hb hc) [.int a, .int b, .int (1), .int c] (by kernel_rfl) 3000 (by kernel_rfl)
/-- (define (find l k) (if (null? l) 'none (if (< (car l) 0) (k (car l)) (find (cdr l) k)))) (call/cc (lambda (k) (find '(<a> <b> <c>) k))) -/
def EsFX (ta tb tc : List UInt8) : List Sx := [.lst [.tok [100, 101, 102, 105, 110, 101], .lst [.tok [102, 105, 110, 100], .tok [108], .tok [107]], .lst [.tok [105, 102], .lst [.tok [110, 117, 108, 108, 63], .tok [108]], .quo (.tok [110, 111, 110, 101]), .lst [.tok [105, 102], .lst [.tok [60], .lst [.tok [99, 97, 114], .tok [108]], .tok [48]], .lst [.tok [107], .lst [.tok [99, 97, 114], .tok [108]]], .lst [.tok [102, 105, 110, 100], .lst [.tok [99, 100, 114], .tok [108]], .tok [107]]]]], .lst [.tok [99, 97, 108, 108, 47, 99, 99], .lst [.tok [108, 97, 109, 98, 100, 97], .lst [.tok [107]], .lst [.tok [102, 105, 110, 100], .quo (.lst [.tok ta, .tok tb, .tok tc]), .tok [107]]]]]
def EsFD (da db dc : D) : List D := [lst [sym [100, 101, 102, 105, 110, 101], lst [sym [102, 105, 110, 100], sym [108], sym [107]], lst [sym [105, 102], lst [sym [110, 117, 108, 108, 63], sym [108]], lst [sym qsym, sym [110, 111, 110, 101]], lst [sym [105, 102], lst [sym [60], lst [sym [99, 97, 114], sym [108]], num (0)], lst [sym [107], lst [sym [99, 97, 114], sym [108]]], lst [sym [102, 105, 110, 100], lst [sym [99, 100, 114], sym [108]], sym [107]]]]], lst [sym [99, 97, 108, 108, 47, 99, 99], lst [sym [108, 97, 109, 98, 100, 97], lst [sym [107]], lst [sym [102, 105, 110, 100], lst [sym qsym, lst [da, db, dc]], sym [107]]]]]
def EsFE (a b c : Int) : List E := [.define [102, 105, 110, 100] (.lambda [102, 105, 110, 100] [[108], [107]] (.ite (.apply [.var [110, 117, 108, 108, 63], .var [108]]) (.const (sym [110, 111, 110, 101])) (.ite (.apply [.var [60], .apply [.var [99, 97, 114], .var [108]], .const (num (0))]) (.apply [.var [107], .apply [.var [99, 97, 114], .var [108]]]) (.apply [.var [102, 105, 110, 100], .apply [.var [99, 100, 114], .var [108]], .var [107]])))), .apply [.var [99, 97, 108, 108, 47, 99, 99], .lambda [] [[107]] (.apply [.var [102, 105, 110, 100], .const (lst [num a, num b, num c]), .var [107]])]]
def EsFT (ta tb tc : List UInt8) : List UInt8 := [40, 100, 101, 102, 105, 110, 101, 32, 40, 102, 105, 110, 100, 32, 108, 32, 107, 41, 32, 40, 105, 102, 32, 40, 110, 117, 108, 108, 63, 32, 108, 41, 32, 39, 110, 111, 110, 101, 32, 40, 105, 102, 32, 40, 60, 32, 40, 99, 97, 114, 32, 108, 41, 32, 48, 41, 32, 40, 107, 32, 40, 99, 97, 114, 32, 108, 41, 41, 32, 40, 102, 105, 110, 100, 32, 40, 99, 100, 114, 32, 108, 41, 32, 107, 41, 41, 41, 41, 32, 40, 99, 97, 108, 108, 47, 99, 99, 32, 40, 108, 97, 109, 98, 100, 97, 32, 40, 107, 41, 32, 40, 102, 105, 110, 100, 32, 39, 40] ++ ta ++ [32] ++ tb ++ [32] ++ tc ++ [41, 32, 107, 41, 41, 41]
set_option maxRecDepth 100000 in
theorem EsF_text (ta tb tc : List UInt8) : prF (EsFX ta tb tc) = EsFT ta tb tc := by simp [EsFX, EsFT, prF, prS, prL, prT, prR]
set_option maxRecDepth 100000 in
theorem comp_EsF (a b c : Int) (ha : Small a) (hb : Small b) (hc : Small c) : Comp (EsFT (Lib.itoa a) (Lib.itoa b) (Lib.itoa c)) 3 (codeS (EsFE a b c)) := by
  have la := itoa_lenS a ha
  have ka := itoa_okT a ha
  have lb := itoa_lenS b hb
  have kb := itoa_okT b hb
  have lc := itoa_lenS c hc
  have kc := itoa_okT c hc
  refine comp_of (EsFX (Lib.itoa a) (Lib.itoa b) (Lib.itoa c)) (EsFE a b c) 3 (EsF_text _ _ _).symm (by rw [EsF_text]; simp [EsFT]; omega) ?_ (EsFD (num a) (num b) (num c)) ?_ (by kernel_rfl) (by kernel_rfl) ?_
  · unfold EsFX
    repeat' first | with_reducible exact ka | with_reducible exact kb | with_reducible exact kc | with_reducible exact okL_nil _ | with_reducible apply okL_cons | with_reducible apply okS_lst (by decide) | with_reducible apply okS_quo (by decide) | with_reducible apply okS_tok | kernel_rfl
  · have : datL (EsFX (Lib.itoa a) (Lib.itoa b) (Lib.itoa c)) = EsFD ((tokD (Lib.itoa a)).getD (sym [])) ((tokD (Lib.itoa b)).getD (sym [])) ((tokD (Lib.itoa c)).getD (sym [])) := by kernel_rfl
    rw [this, tokD_itoa a ha, tokD_itoa b hb, tokD_itoa c hc]; rfl
  · have e : cdOk 3 (codeS (EsFE a b c)) = csOk 3 [some (sym [110, 111, 110, 101]), some (num (0)), some (lst [num a, num b, num c])] := by kernel_rfl
    rw [e]
    repeat' first | with_reducible exact csOk_nil _ | with_reducible apply csOk_some | with_reducible apply csOk_none | with_reducible exact dOk_three ha hb hc | with_reducible exact dOk_num (Small.in hb) | with_reducible exact dOk_num (Small.in hc) | kernel_rfl
/-- The first of them that is less than 0. -/
def firstNeg : List Int → List UInt8
  | [] => [110, 111, 110, 101]
  | k :: r => if k < 0 then Lib.itoa k else firstNeg r
set_option maxRecDepth 1000000 in
set_option maxHeartbeats 4000000 in
theorem run_EsF (a b c : Int) (i j k : Nat) : ∃ fuel md, goS (cdOf (codeS (EsFE a b c)) [.sym [110, 111, 110, 101], .int 0, lstV [i, j, k] [a, b, c]]) fuel (startS (cdOf (codeS (EsFE a b c)) [.sym [110, 111, 110, 101], .int 0, lstV [i, j, k] [a, b, c]])) 5000 0 = some (md, .done ((if a < 0 then toldS (.int a) else if b < 0 then toldS (.int b) else if c < 0 then toldS (.int c) else [110, 111, 110, 101]).take 100) []) := by
  rcases a with a | (_ | a) <;> rcases b with b | (_ | b) <;> rcases c with c | (_ | c)
  iterate 27 exact run_of (fuel := 600) (by as_aux_lemma => kernel_rfl)
theorem says_EsF (a b c : Int) (ha : Small a) (hb : Small b) (hc : Small c) : Says (EsFT (Lib.itoa a) (Lib.itoa b) (Lib.itoa c)) 5000 (firstNeg [a, b, c]) [] := by
  refine ⟨3, codeS (EsFE a b c), comp_EsF a b c ha hb hc, fun cs hcs => ?_⟩
  have e : (codeS (EsFE a b c)).cs = [some (sym [110, 111, 110, 101]), some (num 0), some (lst [num a, num b, num c])] := by kernel_rfl
  rw [e] at hcs
  obtain ⟨v1, v2, v3, rfl, h1, h2, h3⟩ := dvs_three hcs
  obtain rfl : v1 = .sym [110, 111, 110, 101] := dv_lit h1 rfl
  obtain rfl : v2 = .int 0 := dv_lit h2 rfl
  obtain ⟨is, hi, rfl⟩ := dv_ints [a, b, c] v3 h3
  match is, hi with
  | [i, j, k], _ =>
    have := run_EsF a b c i j k
    have e2 : (if a < 0 then toldS (.int a) else if b < 0 then toldS (.int b) else if c < 0 then toldS (.int c) else [110, 111, 110, 101]).take 100 = firstNeg [a, b, c] := by
      simp only [firstNeg]
      split
      · exact told_int' a (Small.in ha)
      · split
        · exact told_int' b (Small.in hb)
        · split
          · exact told_int' c (Small.in hc)
          · rfl
    rw [e2] at this
    exact this
end Go.Proofs.YtlobegpjenabaaaGreatDoor
