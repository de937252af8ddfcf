/- Lists: its programs, as they run. -/
import Derived.Test.YtlobegpjenabaaaGreatDoorQKpLst
namespace Go.Proofs.YtlobegpjenabaaaGreatDoor
open Go.RowKit
set_option linter.unusedSimpArgs false
set_option linter.unusedVariables false

theorem run_of {C : Cd} {most fuel : Nat} {t : List UInt8} {o : List (List UInt8)} (hr : (goS C fuel (startS C) most 0).map (fun r => r.2) = some (.done t o)) : ∃ fuel m, goS C fuel (startS C) most 0 = some (m, .done t o) := by
  cases hg : goS C fuel (startS C) most 0 with
  | none => rw [hg] at hr; cases hr
  | some r =>
    obtain ⟨m, r⟩ := r
    rw [hg] at hr
    have hr : some r = some (.done t o) := hr
    cases hr
    exact ⟨fuel, m, hg⟩
theorem dvs_two {N : Nat} {a b : D} {cs : List V} (h : DVs N [some a, some b] cs) : ∃ v1 v2, cs = [v1, v2] ∧ DV N a v1 ∧ DV N b v2 := by
  match cs, h with
  | [v1, v2], h => exact ⟨v1, v2, rfl, h.1, h.2.1⟩
  | [], h => exact h.elim
  | [_], h => exact h.2.elim
  | _ :: _ :: _ :: _, h => exact h.2.2.elim
theorem zip_ints (is : List Nat) (l : List Int) (h : is.length = l.length) : ∃ zs : List (Nat × Int), is = zs.map (·.1) ∧ l = zs.map (·.2) ∧ zs.length = l.length :=
  ⟨is.zip l, by rw [List.map_fst_zip (by omega)], by rw [List.map_snd_zip (by omega)], by rw [List.length_zip]; omega⟩
/-- Ints, and what stands behind them. -/
def lstW : List Int → V → V
  | [], v => v
  | k :: r, v => .pair 0 (.int k) (lstW r v)
def sumW (l : List Int) : Int := l.foldl (fun a x => w64 (a + x)) 0
/-- (define (rev l a) (if (null? l) a (rev (cdr l) (cons (car l) a)))) (rev '<l:l> '()) -/
def LsRX (l : List Int) : List Sx := [.lst [.tok [100, 101, 102, 105, 110, 101], .lst [.tok [114, 101, 118], .tok [108], .tok [97]], .lst [.tok [105, 102], .lst [.tok [110, 117, 108, 108, 63], .tok [108]], .tok [97], .lst [.tok [114, 101, 118], .lst [.tok [99, 100, 114], .tok [108]], .lst [.tok [99, 111, 110, 115], .lst [.tok [99, 97, 114], .tok [108]], .tok [97]]]]], .lst [.tok [114, 101, 118], .quo (.lst (l.map tokI)), .quo (.lst [])]]
def LsRD (dl : List D) : List D := [lst [sym [100, 101, 102, 105, 110, 101], lst [sym [114, 101, 118], sym [108], sym [97]], lst [sym [105, 102], lst [sym [110, 117, 108, 108, 63], sym [108]], sym [97], lst [sym [114, 101, 118], lst [sym [99, 100, 114], sym [108]], lst [sym [99, 111, 110, 115], lst [sym [99, 97, 114], sym [108]], sym [97]]]]], lst [sym [114, 101, 118], lst [sym qsym, lst dl], lst [sym qsym, lst []]]]
def LsRE (l : List Int) : List E := [.define [114, 101, 118] (.lambda [114, 101, 118] [[108], [97]] (.ite (.apply [.var [110, 117, 108, 108, 63], .var [108]]) (.var [97]) (.apply [.var [114, 101, 118], .apply [.var [99, 100, 114], .var [108]], .apply [.var [99, 111, 110, 115], .apply [.var [99, 97, 114], .var [108]], .var [97]]]))), .apply [.var [114, 101, 118], .const (lst (l.map num)), .const (lst [])]]
def LsRT (l : List Int) : List UInt8 := [40, 100, 101, 102, 105, 110, 101, 32, 40, 114, 101, 118, 32, 108, 32, 97, 41, 32, 40, 105, 102, 32, 40, 110, 117, 108, 108, 63, 32, 108, 41, 32, 97, 32, 40, 114, 101, 118, 32, 40, 99, 100, 114, 32, 108, 41, 32, 40, 99, 111, 110, 115, 32, 40, 99, 97, 114, 32, 108, 41, 32, 97, 41, 41, 41, 41, 32, 40, 114, 101, 118, 32, 39] ++ spellS l ++ [32, 39, 40, 41, 41]
theorem LsR_text (l : List Int) : prF (LsRX l) = LsRT l := by
  unfold LsRX LsRT
  simp only [prF, prS, prL, prT, prR, prT_ints, ← prS_ints l]
  simp
set_option maxRecDepth 100000 in
theorem comp_LsR (l : List Int) (hl : ∀ k ∈ l, Small k) (nl : l.length ≤ 12) : Comp (LsRT l) 3 (codeS (LsRE l)) := by
  have ll := spellS_len l fun k hk => itoa_lenS k (hl k hk)
  refine comp_of (LsRX l) (LsRE l) 3 (LsR_text _).symm (by rw [LsR_text]; simp [LsRT]; omega) ?_ (LsRD (l.map num)) ?_ (by kernel_rfl) (by kernel_rfl) ?_
  · unfold LsRX
    repeat' first | with_reducible exact okL_ints _ l hl | with_reducible exact okL_nil _ | with_reducible apply okL_cons | with_reducible apply okS_lst (by decide) | with_reducible apply okS_quo (by decide) | with_reducible apply okS_tok | kernel_rfl
  · have : datL (LsRX l) = LsRD (datL (l.map tokI)) := by kernel_rfl
    rw [this, datL_ints l hl]
  · have e : cdOk 3 (codeS (LsRE l)) = csOk 3 [some (lst (l.map num)), some (lst [])] := by kernel_rfl
    rw [e]
    repeat' first | with_reducible exact csOk_nil _ | with_reducible apply csOk_some | with_reducible apply csOk_none | with_reducible exact dOk_ints 1 l hl | kernel_rfl
set_option maxRecDepth 1000000 in
set_option maxHeartbeats 4000000 in
theorem run_LsR (zs : List (Nat × Int)) (h : zs.length ≤ 12) : ∃ fuel md, goS (cdOf (codeS (LsRE (zs.map (·.2)))) [lstV (zs.map (·.1)) (zs.map (·.2)), .empty]) fuel (startS (cdOf (codeS (LsRE (zs.map (·.2)))) [lstV (zs.map (·.1)) (zs.map (·.2)), .empty])) 5000 0 = some (md, .done ((spellS (zs.map (·.2)).reverse).take 100) []) := by
  rcases zs with _ | ⟨⟨i1, x1⟩, _ | ⟨⟨i2, x2⟩, _ | ⟨⟨i3, x3⟩, _ | ⟨⟨i4, x4⟩, _ | ⟨⟨i5, x5⟩, _ | ⟨⟨i6, x6⟩, _ | ⟨⟨i7, x7⟩, _ | ⟨⟨i8, x8⟩, _ | ⟨⟨i9, x9⟩, _ | ⟨⟨i10, x10⟩, _ | ⟨⟨i11, x11⟩, _ | ⟨⟨i12, x12⟩, _ | ⟨z, zs⟩⟩⟩⟩⟩⟩⟩⟩⟩⟩⟩⟩⟩
  iterate 13 exact run_of (fuel := 2000) (by as_aux_lemma => kernel_rfl)
  · simp at h
theorem says_LsR (l : List Int) (hl : ∀ k ∈ l, Small k) (nl : l.length ≤ 12) : Says (LsRT l) 5000 ((spellS l.reverse).take 100) [] := by
  refine ⟨3, codeS (LsRE l), comp_LsR l hl nl, fun cs hcs => ?_⟩
  have e : (codeS (LsRE l)).cs = [some (lst (l.map num)), some (lst [])] := by kernel_rfl
  rw [e] at hcs
  obtain ⟨v1, v2, rfl, h1, h2⟩ := dvs_two hcs
  obtain ⟨is, hi, rfl⟩ := dv_ints l v1 h1
  obtain rfl : v2 = .empty := dv_lit h2 rfl
  obtain ⟨zs, rfl, rfl, hz⟩ := zip_ints is l hi
  exact run_LsR zs (by omega)
/-- (define (map f l) (if (null? l) '() (cons (f (car l)) (map f (cdr l))))) (map (lambda (x) (+ x x)) '<l:l>) -/
def LsMX (l : List Int) : List Sx := [.lst [.tok [100, 101, 102, 105, 110, 101], .lst [.tok [109, 97, 112], .tok [102], .tok [108]], .lst [.tok [105, 102], .lst [.tok [110, 117, 108, 108, 63], .tok [108]], .quo (.lst []), .lst [.tok [99, 111, 110, 115], .lst [.tok [102], .lst [.tok [99, 97, 114], .tok [108]]], .lst [.tok [109, 97, 112], .tok [102], .lst [.tok [99, 100, 114], .tok [108]]]]]], .lst [.tok [109, 97, 112], .lst [.tok [108, 97, 109, 98, 100, 97], .lst [.tok [120]], .lst [.tok [43], .tok [120], .tok [120]]], .quo (.lst (l.map tokI))]]
def LsMD (dl : List D) : List D := [lst [sym [100, 101, 102, 105, 110, 101], lst [sym [109, 97, 112], sym [102], sym [108]], lst [sym [105, 102], lst [sym [110, 117, 108, 108, 63], sym [108]], lst [sym qsym, lst []], lst [sym [99, 111, 110, 115], lst [sym [102], lst [sym [99, 97, 114], sym [108]]], lst [sym [109, 97, 112], sym [102], lst [sym [99, 100, 114], sym [108]]]]]], lst [sym [109, 97, 112], lst [sym [108, 97, 109, 98, 100, 97], lst [sym [120]], lst [sym [43], sym [120], sym [120]]], lst [sym qsym, lst dl]]]
def LsME (l : List Int) : List E := [.define [109, 97, 112] (.lambda [109, 97, 112] [[102], [108]] (.ite (.apply [.var [110, 117, 108, 108, 63], .var [108]]) (.const (lst [])) (.apply [.var [99, 111, 110, 115], .apply [.var [102], .apply [.var [99, 97, 114], .var [108]]], .apply [.var [109, 97, 112], .var [102], .apply [.var [99, 100, 114], .var [108]]]]))), .apply [.var [109, 97, 112], .lambda [] [[120]] (.apply [.var [43], .var [120], .var [120]]), .const (lst (l.map num))]]
def LsMT (l : List Int) : List UInt8 := [40, 100, 101, 102, 105, 110, 101, 32, 40, 109, 97, 112, 32, 102, 32, 108, 41, 32, 40, 105, 102, 32, 40, 110, 117, 108, 108, 63, 32, 108, 41, 32, 39, 40, 41, 32, 40, 99, 111, 110, 115, 32, 40, 102, 32, 40, 99, 97, 114, 32, 108, 41, 41, 32, 40, 109, 97, 112, 32, 102, 32, 40, 99, 100, 114, 32, 108, 41, 41, 41, 41, 41, 32, 40, 109, 97, 112, 32, 40, 108, 97, 109, 98, 100, 97, 32, 40, 120, 41, 32, 40, 43, 32, 120, 32, 120, 41, 41, 32, 39] ++ spellS l ++ [41]
theorem LsM_text (l : List Int) : prF (LsMX l) = LsMT l := by
  unfold LsMX LsMT
  simp only [prF, prS, prL, prT, prR, prT_ints, ← prS_ints l]
  simp
set_option maxRecDepth 100000 in
theorem comp_LsM (l : List Int) (hl : ∀ k ∈ l, Small k) (nl : l.length ≤ 12) : Comp (LsMT l) 3 (codeS (LsME l)) := by
  have ll := spellS_len l fun k hk => itoa_lenS k (hl k hk)
  refine comp_of (LsMX l) (LsME l) 3 (LsM_text _).symm (by rw [LsM_text]; simp [LsMT]; omega) ?_ (LsMD (l.map num)) ?_ (by kernel_rfl) (by kernel_rfl) ?_
  · unfold LsMX
    repeat' first | with_reducible exact okL_ints _ l hl | with_reducible exact okL_nil _ | with_reducible apply okL_cons | with_reducible apply okS_lst (by decide) | with_reducible apply okS_quo (by decide) | with_reducible apply okS_tok | kernel_rfl
  · have : datL (LsMX l) = LsMD (datL (l.map tokI)) := by kernel_rfl
    rw [this, datL_ints l hl]
  · have e : cdOk 3 (codeS (LsME l)) = csOk 3 [some (lst (l.map num)), some (lst [])] := by kernel_rfl
    rw [e]
    repeat' first | with_reducible exact csOk_nil _ | with_reducible apply csOk_some | with_reducible apply csOk_none | with_reducible exact dOk_ints 1 l hl | kernel_rfl
set_option maxRecDepth 1000000 in
set_option maxHeartbeats 4000000 in
theorem run_LsM (zs : List (Nat × Int)) (h : zs.length ≤ 12) : ∃ fuel md, goS (cdOf (codeS (LsME (zs.map (·.2)))) [lstV (zs.map (·.1)) (zs.map (·.2)), .empty]) fuel (startS (cdOf (codeS (LsME (zs.map (·.2)))) [lstV (zs.map (·.1)) (zs.map (·.2)), .empty])) 5000 0 = some (md, .done ((spellS ((zs.map (·.2)).map fun x => w64 (x + x))).take 100) []) := by
  rcases zs with _ | ⟨⟨i1, x1⟩, _ | ⟨⟨i2, x2⟩, _ | ⟨⟨i3, x3⟩, _ | ⟨⟨i4, x4⟩, _ | ⟨⟨i5, x5⟩, _ | ⟨⟨i6, x6⟩, _ | ⟨⟨i7, x7⟩, _ | ⟨⟨i8, x8⟩, _ | ⟨⟨i9, x9⟩, _ | ⟨⟨i10, x10⟩, _ | ⟨⟨i11, x11⟩, _ | ⟨⟨i12, x12⟩, _ | ⟨z, zs⟩⟩⟩⟩⟩⟩⟩⟩⟩⟩⟩⟩⟩
  iterate 13 exact run_of (fuel := 2000) (by as_aux_lemma => kernel_rfl)
  · simp at h
theorem says_LsM (l : List Int) (hl : ∀ k ∈ l, Small k) (nl : l.length ≤ 12) : Says (LsMT l) 5000 ((spellS (l.map fun x => w64 (x + x))).take 100) [] := by
  refine ⟨3, codeS (LsME l), comp_LsM l hl nl, fun cs hcs => ?_⟩
  have e : (codeS (LsME l)).cs = [some (lst (l.map num)), some (lst [])] := by kernel_rfl
  rw [e] at hcs
  obtain ⟨v1, v2, rfl, h1, h2⟩ := dvs_two hcs
  obtain ⟨is, hi, rfl⟩ := dv_ints l v1 h1
  obtain rfl : v2 = .empty := dv_lit h2 rfl
  obtain ⟨zs, rfl, rfl, hz⟩ := zip_ints is l hi
  exact run_LsM zs (by omega)
/-- (define (fold f a l) (if (null? l) a (fold f (f a (car l)) (cdr l)))) (fold + 0 '<l:l>) -/
def LsFX (l : List Int) : List Sx := [.lst [.tok [100, 101, 102, 105, 110, 101], .lst [.tok [102, 111, 108, 100], .tok [102], .tok [97], .tok [108]], .lst [.tok [105, 102], .lst [.tok [110, 117, 108, 108, 63], .tok [108]], .tok [97], .lst [.tok [102, 111, 108, 100], .tok [102], .lst [.tok [102], .tok [97], .lst [.tok [99, 97, 114], .tok [108]]], .lst [.tok [99, 100, 114], .tok [108]]]]], .lst [.tok [102, 111, 108, 100], .tok [43], .tok [48], .quo (.lst (l.map tokI))]]
def LsFD (dl : List D) : List D := [lst [sym [100, 101, 102, 105, 110, 101], lst [sym [102, 111, 108, 100], sym [102], sym [97], sym [108]], lst [sym [105, 102], lst [sym [110, 117, 108, 108, 63], sym [108]], sym [97], lst [sym [102, 111, 108, 100], sym [102], lst [sym [102], sym [97], lst [sym [99, 97, 114], sym [108]]], lst [sym [99, 100, 114], sym [108]]]]], lst [sym [102, 111, 108, 100], sym [43], num (0), lst [sym qsym, lst dl]]]
def LsFE (l : List Int) : List E := [.define [102, 111, 108, 100] (.lambda [102, 111, 108, 100] [[102], [97], [108]] (.ite (.apply [.var [110, 117, 108, 108, 63], .var [108]]) (.var [97]) (.apply [.var [102, 111, 108, 100], .var [102], .apply [.var [102], .var [97], .apply [.var [99, 97, 114], .var [108]]], .apply [.var [99, 100, 114], .var [108]]]))), .apply [.var [102, 111, 108, 100], .var [43], .const (num (0)), .const (lst (l.map num))]]
def LsFT (l : List Int) : List UInt8 := [40, 100, 101, 102, 105, 110, 101, 32, 40, 102, 111, 108, 100, 32, 102, 32, 97, 32, 108, 41, 32, 40, 105, 102, 32, 40, 110, 117, 108, 108, 63, 32, 108, 41, 32, 97, 32, 40, 102, 111, 108, 100, 32, 102, 32, 40, 102, 32, 97, 32, 40, 99, 97, 114, 32, 108, 41, 41, 32, 40, 99, 100, 114, 32, 108, 41, 41, 41, 41, 32, 40, 102, 111, 108, 100, 32, 43, 32, 48, 32, 39] ++ spellS l ++ [41]
theorem LsF_text (l : List Int) : prF (LsFX l) = LsFT l := by
  unfold LsFX LsFT
  simp only [prF, prS, prL, prT, prR, prT_ints, ← prS_ints l]
  simp
set_option maxRecDepth 100000 in
theorem comp_LsF (l : List Int) (hl : ∀ k ∈ l, Small k) (nl : l.length ≤ 12) : Comp (LsFT l) 3 (codeS (LsFE l)) := by
  have ll := spellS_len l fun k hk => itoa_lenS k (hl k hk)
  refine comp_of (LsFX l) (LsFE l) 3 (LsF_text _).symm (by rw [LsF_text]; simp [LsFT]; omega) ?_ (LsFD (l.map num)) ?_ (by kernel_rfl) (by kernel_rfl) ?_
  · unfold LsFX
    repeat' first | with_reducible exact okL_ints _ l hl | with_reducible exact okL_nil _ | with_reducible apply okL_cons | with_reducible apply okS_lst (by decide) | with_reducible apply okS_quo (by decide) | with_reducible apply okS_tok | kernel_rfl
  · have : datL (LsFX l) = LsFD (datL (l.map tokI)) := by kernel_rfl
    rw [this, datL_ints l hl]
  · have e : cdOk 3 (codeS (LsFE l)) = csOk 3 [some (num (0)), some (lst (l.map num))] := by kernel_rfl
    rw [e]
    repeat' first | with_reducible exact csOk_nil _ | with_reducible apply csOk_some | with_reducible apply csOk_none | with_reducible exact dOk_ints 1 l hl | kernel_rfl
set_option maxRecDepth 1000000 in
set_option maxHeartbeats 4000000 in
theorem run_LsF (zs : List (Nat × Int)) (h : zs.length ≤ 12) : ∃ fuel md, goS (cdOf (codeS (LsFE (zs.map (·.2)))) [.int 0, lstV (zs.map (·.1)) (zs.map (·.2))]) fuel (startS (cdOf (codeS (LsFE (zs.map (·.2)))) [.int 0, lstV (zs.map (·.1)) (zs.map (·.2))])) 5000 0 = some (md, .done ((toldS (.int (sumW (zs.map (·.2))))).take 100) []) := by
  rcases zs with _ | ⟨⟨i1, x1⟩, _ | ⟨⟨i2, x2⟩, _ | ⟨⟨i3, x3⟩, _ | ⟨⟨i4, x4⟩, _ | ⟨⟨i5, x5⟩, _ | ⟨⟨i6, x6⟩, _ | ⟨⟨i7, x7⟩, _ | ⟨⟨i8, x8⟩, _ | ⟨⟨i9, x9⟩, _ | ⟨⟨i10, x10⟩, _ | ⟨⟨i11, x11⟩, _ | ⟨⟨i12, x12⟩, _ | ⟨z, zs⟩⟩⟩⟩⟩⟩⟩⟩⟩⟩⟩⟩⟩
  iterate 13 exact run_of (fuel := 2000) (by as_aux_lemma => kernel_rfl)
  · simp at h
theorem says_LsF (l : List Int) (hl : ∀ k ∈ l, Small k) (nl : l.length ≤ 12) : Says (LsFT l) 5000 ((toldS (.int (sumW l))).take 100) [] := by
  refine ⟨3, codeS (LsFE l), comp_LsF l hl nl, fun cs hcs => ?_⟩
  have e : (codeS (LsFE l)).cs = [some (num 0), some (lst (l.map num))] := by kernel_rfl
  rw [e] at hcs
  obtain ⟨v1, v2, rfl, h1, h2⟩ := dvs_two hcs
  obtain ⟨is, hi, rfl⟩ := dv_ints l v2 h2
  obtain rfl : v1 = .int 0 := dv_lit h1 rfl
  obtain ⟨zs, rfl, rfl, hz⟩ := zip_ints is l hi
  exact run_LsF zs (by omega)
/-- (define (join a b) (if (null? a) b (cons (car a) (join (cdr a) b)))) (join '<l:l> '<l:m>) -/
def LsJX (l m : List Int) : List Sx := [.lst [.tok [100, 101, 102, 105, 110, 101], .lst [.tok [106, 111, 105, 110], .tok [97], .tok [98]], .lst [.tok [105, 102], .lst [.tok [110, 117, 108, 108, 63], .tok [97]], .tok [98], .lst [.tok [99, 111, 110, 115], .lst [.tok [99, 97, 114], .tok [97]], .lst [.tok [106, 111, 105, 110], .lst [.tok [99, 100, 114], .tok [97]], .tok [98]]]]], .lst [.tok [106, 111, 105, 110], .quo (.lst (l.map tokI)), .quo (.lst (m.map tokI))]]
def LsJD (dl dm : List D) : List D := [lst [sym [100, 101, 102, 105, 110, 101], lst [sym [106, 111, 105, 110], sym [97], sym [98]], lst [sym [105, 102], lst [sym [110, 117, 108, 108, 63], sym [97]], sym [98], lst [sym [99, 111, 110, 115], lst [sym [99, 97, 114], sym [97]], lst [sym [106, 111, 105, 110], lst [sym [99, 100, 114], sym [97]], sym [98]]]]], lst [sym [106, 111, 105, 110], lst [sym qsym, lst dl], lst [sym qsym, lst dm]]]
def LsJE (l m : List Int) : List E := [.define [106, 111, 105, 110] (.lambda [106, 111, 105, 110] [[97], [98]] (.ite (.apply [.var [110, 117, 108, 108, 63], .var [97]]) (.var [98]) (.apply [.var [99, 111, 110, 115], .apply [.var [99, 97, 114], .var [97]], .apply [.var [106, 111, 105, 110], .apply [.var [99, 100, 114], .var [97]], .var [98]]]))), .apply [.var [106, 111, 105, 110], .const (lst (l.map num)), .const (lst (m.map num))]]
def LsJT (l m : List Int) : List UInt8 := [40, 100, 101, 102, 105, 110, 101, 32, 40, 106, 111, 105, 110, 32, 97, 32, 98, 41, 32, 40, 105, 102, 32, 40, 110, 117, 108, 108, 63, 32, 97, 41, 32, 98, 32, 40, 99, 111, 110, 115, 32, 40, 99, 97, 114, 32, 97, 41, 32, 40, 106, 111, 105, 110, 32, 40, 99, 100, 114, 32, 97, 41, 32, 98, 41, 41, 41, 41, 32, 40, 106, 111, 105, 110, 32, 39] ++ spellS l ++ [32, 39] ++ spellS m ++ [41]
theorem LsJ_text (l m : List Int) : prF (LsJX l m) = LsJT l m := by
  unfold LsJX LsJT
  simp only [prF, prS, prL, prT, prR, prT_ints, ← prS_ints l, ← prS_ints m]
  simp
set_option maxRecDepth 100000 in
theorem comp_LsJ (l m : List Int) (hl : ∀ k ∈ l, Small k) (nl : l.length ≤ 12) (hm : ∀ k ∈ m, Small k) (nm : m.length ≤ 12) : Comp (LsJT l m) 3 (codeS (LsJE l m)) := by
  have ll := spellS_len l fun k hk => itoa_lenS k (hl k hk)
  have lm := spellS_len m fun k hk => itoa_lenS k (hm k hk)
  refine comp_of (LsJX l m) (LsJE l m) 3 (LsJ_text _ _).symm (by rw [LsJ_text]; simp [LsJT]; omega) ?_ (LsJD (l.map num) (m.map num)) ?_ (by kernel_rfl) (by kernel_rfl) ?_
  · unfold LsJX
    repeat' first | with_reducible exact okL_ints _ l hl | with_reducible exact okL_ints _ m hm | with_reducible exact okL_nil _ | with_reducible apply okL_cons | with_reducible apply okS_lst (by decide) | with_reducible apply okS_quo (by decide) | with_reducible apply okS_tok | kernel_rfl
  · have : datL (LsJX l m) = LsJD (datL (l.map tokI)) (datL (m.map tokI)) := by kernel_rfl
    rw [this, datL_ints l hl, datL_ints m hm]
  · have e : cdOk 3 (codeS (LsJE l m)) = csOk 3 [some (lst (l.map num)), some (lst (m.map num))] := by kernel_rfl
    rw [e]
    repeat' first | with_reducible exact csOk_nil _ | with_reducible apply csOk_some | with_reducible apply csOk_none | with_reducible exact dOk_ints 1 l hl | with_reducible exact dOk_ints 1 m hm | kernel_rfl
set_option maxRecDepth 1000000 in
set_option maxHeartbeats 4000000 in
theorem run_LsJ (zs : List (Nat × Int)) (h : zs.length ≤ 12) (m : List Int) (vb : V) : ∃ fuel md, goS (cdOf (codeS (LsJE (zs.map (·.2)) m)) [lstV (zs.map (·.1)) (zs.map (·.2)), vb]) fuel (startS (cdOf (codeS (LsJE (zs.map (·.2)) m)) [lstV (zs.map (·.1)) (zs.map (·.2)), vb])) 5000 0 = some (md, .done ((toldS (lstW (zs.map (·.2)) vb)).take 100) []) := by
  rcases zs with _ | ⟨⟨i1, x1⟩, _ | ⟨⟨i2, x2⟩, _ | ⟨⟨i3, x3⟩, _ | ⟨⟨i4, x4⟩, _ | ⟨⟨i5, x5⟩, _ | ⟨⟨i6, x6⟩, _ | ⟨⟨i7, x7⟩, _ | ⟨⟨i8, x8⟩, _ | ⟨⟨i9, x9⟩, _ | ⟨⟨i10, x10⟩, _ | ⟨⟨i11, x11⟩, _ | ⟨⟨i12, x12⟩, _ | ⟨z, zs⟩⟩⟩⟩⟩⟩⟩⟩⟩⟩⟩⟩⟩
  iterate 13 exact run_of (fuel := 2000) (by as_aux_lemma => kernel_rfl)
  · simp at h
theorem told_lstW : ∀ (l : List Int) (is : List Nat) (m : List Int), is.length = m.length → toldB true (lstW l (lstV is m)) = spellT (l ++ m)
  | [], is, m, h => toldB_ints is m h
  | k :: r, is, m, h => by
    show 32 :: (Lib.itoa k ++ toldB true (lstW r (lstV is m))) = _
    rw [told_lstW r is m h]; rfl
theorem told_join (l : List Int) (is : List Nat) (m : List Int) (h : is.length = m.length) : toldS (lstW l (lstV is m)) = spellS (l ++ m) := by
  cases l with
  | nil => exact told_ints is m h
  | cons k r =>
    show 40 :: (Lib.itoa k ++ toldB true (lstW r (lstV is m))) = _
    rw [told_lstW r is m h]; rfl
theorem says_LsJ (l m : List Int) (hl : ∀ k ∈ l, Small k) (nl : l.length ≤ 12) (hm : ∀ k ∈ m, Small k) (nm : m.length ≤ 12) : Says (LsJT l m) 5000 ((spellS (l ++ m)).take 100) [] := by
  refine ⟨3, codeS (LsJE l m), comp_LsJ l m hl nl hm nm, fun cs hcs => ?_⟩
  have e : (codeS (LsJE l m)).cs = [some (lst (l.map num)), some (lst (m.map num))] := by kernel_rfl
  rw [e] at hcs
  obtain ⟨v1, v2, rfl, h1, h2⟩ := dvs_two hcs
  obtain ⟨is, hi, rfl⟩ := dv_ints l v1 h1
  obtain ⟨js, hj, rfl⟩ := dv_ints m v2 h2
  obtain ⟨zs, rfl, rfl, hz⟩ := zip_ints is l hi
  have := run_LsJ zs (by omega) m (lstV js m)
  rw [told_join _ js m hj] at this
  exact this
end Go.Proofs.YtlobegpjenabaaaGreatDoor
