/- Deep: its program, as it runs. -/
import Derived.Test.YtlobegpjenabaaaGreatDoorK36
namespace Go.Proofs.YtlobegpjenabaaaGreatDoor
open Go.RowKit
set_option linter.unusedSimpArgs false
set_option linter.unusedVariables false

/-- From s to s', with so many applications. -/
def Stp (C : Cd) (s : MS) (a : Nat) (s' : MS) : Prop := ∃ k, ∀ K n made, made + a ≤ n → goS C (k + K) s n made = goS C K s' n (made + a)
def To (C : Cd) (s : MS) (a : Nat) (r : RR) : Prop := ∃ F, ∀ n made, made + a ≤ n → goS C F s n made = some (made + a, r)
theorem Stp.trans {C : Cd} {s s1 s2 : MS} {a b : Nat} (h : Stp C s a s1) (k : Stp C s1 b s2) : Stp C s (a + b) s2 := by
  obtain ⟨x, hx⟩ := h
  obtain ⟨y, hy⟩ := k
  refine ⟨x + y, fun K n made hl => ?_⟩
  rw [Nat.add_assoc, hx (y + K) n made (by omega), hy K n (made + a) (by omega), Nat.add_assoc]
theorem Stp.to {C : Cd} {s s1 : MS} {a b : Nat} {r : RR} (h : Stp C s a s1) (k : To C s1 b r) : To C s (a + b) r := by
  obtain ⟨x, hx⟩ := h
  obtain ⟨F, hF⟩ := k
  exact ⟨x + F, fun n made hl => by rw [hx F n made (by omega), hF n (made + a) (by omega), Nat.add_assoc]⟩
/-- So many instructions, all of which go well. -/
def runK (C : Cd) : Nat → MS → Option (Nat × MS)
  | 0, s => some (0, s)
  | k + 1, s => match fetchS C s with
    | none => none
    | some (op, _) => match stepS C s with
      | .ok s' => match runK C k s' with
        | some (a, t) => some ((if op = 12 then 1 else 0) + a, t)
        | none => none
      | _ => none
theorem Stp.run {C : Cd} : ∀ (k : Nat) {s s' : MS} {a : Nat}, runK C k s = some (a, s') → Stp C s a s'
  | 0, s, s', a, h => by
    cases h
    exact ⟨0, fun K n made _ => by rw [Nat.zero_add, Nat.add_zero]⟩
  | k + 1, s, s', a, h => by
    unfold runK at h
    cases hf : fetchS C s with
    | none => rw [hf] at h; cases h
    | some q =>
      obtain ⟨op, x⟩ := q
      rw [hf] at h
      simp only at h
      cases hs : stepS C s with
      | bad => rw [hs] at h; cases h
      | err e d o => rw [hs] at h; cases h
      | done t o => rw [hs] at h; cases h
      | ok s1 =>
        rw [hs] at h
        simp only at h
        cases hr : runK C k s1 with
        | none => rw [hr] at h; cases h
        | some q =>
          obtain ⟨b, t⟩ := q
          rw [hr] at h
          cases h
          obtain ⟨y, hy⟩ := Stp.run k hr
          refine ⟨y + 1, fun K n made hl => ?_⟩
          rw [show y + 1 + K = (y + K) + 1 by omega, goS, hf]
          simp only
          rw [if_neg (fun e => by rw [if_pos e.1] at hl; omega), hs]
          simp only
          by_cases h12 : op = 12
          · rw [if_pos h12] at hl ⊢
            rw [if_pos h12]
            rw [hy K n (made + 1) (by omega)]
            congr 1; omega
          · rw [if_neg h12] at hl ⊢
            rw [if_neg h12, hy K n made (by omega), Nat.zero_add]
theorem Stp.pend {C : Cd} {s : MS} {n : Int} (hf : fetchS C s = some (4, n)) (h0 : 0 ≤ n) (h1 : 0 < s.st.length) (h2 : s.st.length < 201) : Stp C s 0 { s with pc := s.pc + 1, st := ⟨s.fr, n, []⟩ :: s.st } := by
  refine Stp.run 1 ?_
  have hs : stepS C s = .ok { s with pc := s.pc + 1, st := ⟨s.fr, n, []⟩ :: s.st } := by
    unfold stepS
    rw [hf]
    simp only
    rw [if_pos h0]
    show (if s.st.length = 201 then _ else if s.st.length = 0 ∨ 201 < s.st.length then _ else _) = _
    rw [if_neg (by omega), if_neg (by omega)]
  simp only [runK, hf, hs]
  rfl
theorem To.pend {C : Cd} {s : MS} {n : Int} (hf : fetchS C s = some (4, n)) (h0 : 0 ≤ n) (h2 : s.st.length = 201) : To C s 0 (.err 9 200 s.out) := by
  refine ⟨1, fun m made hl => ?_⟩
  have hs : stepS C s = .err 9 200 s.out := by
    unfold stepS
    rw [hf]
    simp only
    rw [if_pos h0]
    show (if s.st.length = 201 then errS { s with pc := s.pc + 1 } 9 else _) = _
    rw [if_pos h2]
    unfold errS
    show (match s.st with | _ :: r => SR.err 9 r.length s.out | [] => .bad) = _
    cases hq : s.st with
    | nil => rw [hq] at h2; simp at h2
    | cons e r => rw [hq] at h2; simp at h2; simp only [h2]
  rw [goS, hf]
  simp only
  rw [if_neg (by intro e; exact absurd e.1 (by decide)), hs]
  simp
theorem Stp.load {C : Cd} {s : MS} {x : Int} {f i : Nat} {fr : Fr} {v : V} (hf : fetchS C s = some (2, x)) (h0 : 0 ≤ x) (h1 : findS s.frs (s.fr + 1) s.fr x = some (f, i)) (h2 : s.frs[f]? = some fr) (h3 : fr.vs[i]? = some v) : Stp C s 0 { s with pc := s.pc + 1, val := some v } := by
  refine Stp.run 1 ?_
  have hs : stepS C s = .ok { s with pc := s.pc + 1, val := some v } := by
    unfold stepS
    rw [hf]
    simp only
    rw [if_pos h0]
    show (match findS s.frs (s.fr + 1) s.fr x with | some (f, i) => _ | none => _) = _
    rw [h1]
    simp only
    rw [h2]
    simp only
    rw [h3]
  simp only [runK, hf, hs]
  rfl
/-- (define (sum n) (if (= n 0) 0 (+ n (sum (- n 1))))) (sum <n>) -/
def DpX (tn : List UInt8) : List Sx := [.lst [.tok [100, 101, 102, 105, 110, 101], .lst [.tok [115, 117, 109], .tok [110]], .lst [.tok [105, 102], .lst [.tok [61], .tok [110], .tok [48]], .tok [48], .lst [.tok [43], .tok [110], .lst [.tok [115, 117, 109], .lst [.tok [45], .tok [110], .tok [49]]]]]], .lst [.tok [115, 117, 109], .tok tn]]
def DpD (dn : D) : List D := [lst [sym [100, 101, 102, 105, 110, 101], lst [sym [115, 117, 109], sym [110]], lst [sym [105, 102], lst [sym [61], sym [110], num (0)], num (0), lst [sym [43], sym [110], lst [sym [115, 117, 109], lst [sym [45], sym [110], num (1)]]]]], lst [sym [115, 117, 109], dn]]
def DpE (n : Int) : List E := [.define [115, 117, 109] (.lambda [115, 117, 109] [[110]] (.ite (.apply [.var [61], .var [110], .const (num (0))]) (.const (num (0))) (.apply [.var [43], .var [110], .apply [.var [115, 117, 109], .apply [.var [45], .var [110], .const (num (1))]]]))), .apply [.var [115, 117, 109], .const (num n)]]
def DpT (tn : List UInt8) : List UInt8 := [40, 100, 101, 102, 105, 110, 101, 32, 40, 115, 117, 109, 32, 110, 41, 32, 40, 105, 102, 32, 40, 61, 32, 110, 32, 48, 41, 32, 48, 32, 40, 43, 32, 110, 32, 40, 115, 117, 109, 32, 40, 45, 32, 110, 32, 49, 41, 41, 41, 41, 41, 32, 40, 115, 117, 109, 32] ++ tn ++ [41]
set_option maxRecDepth 100000 in
theorem Dp_text (tn : List UInt8) : prF (DpX tn) = DpT tn := by simp [DpX, DpT, prF, prS, prL, prT, prR]
set_option maxRecDepth 100000 in
theorem comp_Dp (n : Int) (hn : Small n) : Comp (DpT (Lib.itoa n)) 3 (codeS (DpE n)) := by
  have ln := itoa_lenS n hn
  have kn := itoa_okT n hn
  refine comp_of (DpX (Lib.itoa n)) (DpE n) 3 (Dp_text _).symm (by rw [Dp_text]; simp [DpT]; omega) ?_ (DpD (num n)) ?_ (by kernel_rfl) (by kernel_rfl) ?_
  · unfold DpX
    repeat' first | with_reducible exact kn | with_reducible exact okL_nil _ | with_reducible apply okL_cons | with_reducible apply okS_lst (by decide) | with_reducible apply okS_quo (by decide) | with_reducible apply okS_tok | kernel_rfl
  · have : datL (DpX (Lib.itoa n)) = DpD ((tokD (Lib.itoa n)).getD (sym [])) := by kernel_rfl
    rw [this, tokD_itoa n hn]; rfl
  · have e : cdOk 3 (codeS (DpE n)) = csOk 3 [some (num n), some (num (0)), some (num (0)), some (num (1))] := by kernel_rfl
    rw [e]
    repeat' first | with_reducible exact csOk_nil _ | with_reducible apply csOk_some | with_reducible apply csOk_none | with_reducible exact dOk_num (Small.in hn) | kernel_rfl
def dpC (n : Int) : Cd := cdOf (codeS (DpE n)) [.int n, .int 0, .int 0, .int 1]
def dpF : Fr := ⟨[3, 4, 2, 1], [.proc 0, .proc 2, .proc 8, .proc 28], none⟩
def dpO : List (Option PK) := (List.range 14).map (fun k => some (.first k)) ++ [some (.clo 0 0)]
def dpP (i : Int) : Fr := ⟨[0], [.int i], some 0⟩
/-- Within the body, in the newest frame. -/
def dpS (pc : Int) (val : V) (app : Option (V × List V)) (st : List En) (G : List Fr) (v : Int) : MS := ⟨pc, some val, G.length + 1, app, st, [], dpF :: (G ++ [dpP v]), dpO⟩
theorem dp_get (G : List Fr) (v : Int) : (dpF :: (G ++ [dpP v]))[G.length + 1]? = some (dpP v) := by
  rw [List.getElem?_cons_succ, List.getElem?_append_right (Nat.le_refl _), Nat.sub_self]; rfl
theorem dp_own (G : List Fr) (v : Int) : findS (dpF :: (G ++ [dpP v])) (G.length + 1 + 1) (G.length + 1) 0 = some (G.length + 1, 0) := by
  rw [findS, dp_get]; rfl
theorem dp_first (G : List Fr) (v x : Int) (i : Nat) (h1 : idxI [0] x = none) (h2 : idxI dpF.ns x = some i) : findS (dpF :: (G ++ [dpP v])) (G.length + 1 + 1) (G.length + 1) x = some (0, i) := by
  rw [findS, dp_get]
  simp only
  rw [show (dpP v).ns = [0] from rfl, h1]
  simp only
  rw [show (dpP v).out = some 0 from rfl]
  simp only
  rw [findS]
  show (match idxI dpF.ns x with | some i => some (0, i) | none => _) = _
  rw [h2]
set_option maxRecDepth 100000 in
theorem dp_f13 (n v : Int) (val : V) (app : Option (V × List V)) (S : List En) (G : List Fr) : fetchS (dpC n) (dpS 13 val app S G v) = some (4, 22) := by kernel_rfl
set_option maxRecDepth 100000 in
theorem dp_f14 (n v : Int) (val : V) (app : Option (V × List V)) (S : List En) (G : List Fr) : fetchS (dpC n) (dpS 14 val app S G v) = some (4, 16) := by kernel_rfl
set_option maxRecDepth 100000 in
theorem dp_f15 (n v : Int) (val : V) (app : Option (V × List V)) (S : List En) (G : List Fr) : fetchS (dpC n) (dpS 15 val app S G v) = some (2, 2) := by kernel_rfl
set_option maxRecDepth 100000 in
theorem dp_f17 (n v : Int) (val : V) (app : Option (V × List V)) (S : List En) (G : List Fr) : fetchS (dpC n) (dpS 17 val app S G v) = some (2, 0) := by kernel_rfl
set_option maxRecDepth 100000 in
theorem dp_f25 (n v : Int) (val : V) (app : Option (V × List V)) (S : List En) (G : List Fr) : fetchS (dpC n) (dpS 25 val app S G v) = some (4, 27) := by kernel_rfl
set_option maxRecDepth 100000 in
theorem dp_f26 (n v : Int) (val : V) (app : Option (V × List V)) (S : List En) (G : List Fr) : fetchS (dpC n) (dpS 26 val app S G v) = some (2, 3) := by kernel_rfl
set_option maxRecDepth 100000 in
theorem dp_f28 (n v : Int) (val : V) (app : Option (V × List V)) (S : List En) (G : List Fr) : fetchS (dpC n) (dpS 28 val app S G v) = some (2, 0) := by kernel_rfl
set_option maxRecDepth 100000 in
theorem dp_f30 (n v : Int) (val : V) (app : Option (V × List V)) (S : List En) (G : List Fr) : fetchS (dpC n) (dpS 30 val app S G v) = some (4, 32) := by kernel_rfl
set_option maxRecDepth 100000 in
theorem dp_f31 (n v : Int) (val : V) (app : Option (V × List V)) (S : List En) (G : List Fr) : fetchS (dpC n) (dpS 31 val app S G v) = some (2, 1) := by kernel_rfl
set_option maxRecDepth 100000 in
theorem dp_f33 (n v : Int) (val : V) (app : Option (V × List V)) (S : List En) (G : List Fr) : fetchS (dpC n) (dpS 33 val app S G v) = some (4, 35) := by kernel_rfl
set_option maxRecDepth 100000 in
theorem dp_f34 (n v : Int) (val : V) (app : Option (V × List V)) (S : List En) (G : List Fr) : fetchS (dpC n) (dpS 34 val app S G v) = some (2, 4) := by kernel_rfl
set_option maxRecDepth 100000 in
theorem dp_f36 (n v : Int) (val : V) (app : Option (V × List V)) (S : List En) (G : List Fr) : fetchS (dpC n) (dpS 36 val app S G v) = some (2, 0) := by kernel_rfl
set_option maxRecDepth 100000 in
theorem dp_k16 (n v : Int) (val : V) (S : List En) (G : List Fr) : runK (dpC n) 1 (dpS 16 (.proc 8) none (⟨G.length + 1, 16, []⟩ :: ⟨G.length + 1, 22, []⟩ :: S) G v) = some (0, dpS 17 (.proc 8) none (⟨G.length + 1, 18, [.proc 8]⟩ :: ⟨G.length + 1, 22, []⟩ :: S) G v) := by kernel_rfl
set_option maxRecDepth 100000 in
theorem dp_k18 (n v : Int) (val : V) (S : List En) (G : List Fr) : runK (dpC n) 4 (dpS 18 (.int v) none (⟨G.length + 1, 18, [.proc 8]⟩ :: ⟨G.length + 1, 22, []⟩ :: S) G v) = some (1, dpS 22 (.bool (v == 0)) none (⟨G.length + 1, 22, []⟩ :: S) G v) := by kernel_rfl
set_option maxRecDepth 100000 in
theorem dp_yes (n v : Int) (val : V) (S : List En) (G : List Fr) : runK (dpC n) 1 (dpS 22 (.bool true) none (⟨G.length + 1, 22, []⟩ :: S) G v) = some (0, dpS 23 (.bool true) none (S) G v) := by kernel_rfl
set_option maxRecDepth 100000 in
theorem dp_no (n v : Int) (val : V) (S : List En) (G : List Fr) : runK (dpC n) 1 (dpS 22 (.bool false) none (⟨G.length + 1, 22, []⟩ :: S) G v) = some (0, dpS 25 (.bool false) none (S) G v) := by kernel_rfl
set_option maxRecDepth 100000 in
theorem dp_k27 (n v : Int) (val : V) (S : List En) (G : List Fr) : runK (dpC n) 1 (dpS 27 (.proc 0) none (⟨G.length + 1, 27, []⟩ :: S) G v) = some (0, dpS 28 (.proc 0) none (⟨G.length + 1, 29, [.proc 0]⟩ :: S) G v) := by kernel_rfl
set_option maxRecDepth 100000 in
theorem dp_k29 (n v : Int) (val : V) (S : List En) (G : List Fr) : runK (dpC n) 1 (dpS 29 (.int v) none (⟨G.length + 1, 29, [.proc 0]⟩ :: S) G v) = some (0, dpS 30 (.int v) none (⟨G.length + 1, 43, [.int v, .proc 0]⟩ :: S) G v) := by kernel_rfl
set_option maxRecDepth 100000 in
theorem dp_k32 (n v : Int) (val : V) (S : List En) (G : List Fr) : runK (dpC n) 1 (dpS 32 (.proc 28) none (⟨G.length + 1, 32, []⟩ :: ⟨G.length + 1, 43, [.int v, .proc 0]⟩ :: S) G v) = some (0, dpS 33 (.proc 28) none (⟨G.length + 1, 41, [.proc 28]⟩ :: ⟨G.length + 1, 43, [.int v, .proc 0]⟩ :: S) G v) := by kernel_rfl
set_option maxRecDepth 100000 in
theorem dp_k35 (n v : Int) (val : V) (S : List En) (G : List Fr) : runK (dpC n) 1 (dpS 35 (.proc 2) none (⟨G.length + 1, 35, []⟩ :: ⟨G.length + 1, 41, [.proc 28]⟩ :: ⟨G.length + 1, 43, [.int v, .proc 0]⟩ :: S) G v) = some (0, dpS 36 (.proc 2) none (⟨G.length + 1, 37, [.proc 2]⟩ :: ⟨G.length + 1, 41, [.proc 28]⟩ :: ⟨G.length + 1, 43, [.int v, .proc 0]⟩ :: S) G v) := by kernel_rfl
set_option maxRecDepth 100000 in
theorem dp_k37 (n v : Int) (val : V) (S : List En) (G : List Fr) : runK (dpC n) 6 (dpS 37 (.int v) none (⟨G.length + 1, 37, [.proc 2]⟩ :: ⟨G.length + 1, 41, [.proc 28]⟩ :: ⟨G.length + 1, 43, [.int v, .proc 0]⟩ :: S) G v) = some (2, dpS 13 (.int (w64 (v - 1))) none (⟨G.length + 1, 43, [.int v, .proc 0]⟩ :: S) (G ++ [dpP v]) (w64 (v - 1))) := by kernel_rfl
/-- A value has come back to what is pending. -/
def dpR (x : Int) (e : En) (S : List En) (F : List Fr) : MS := ⟨e.nx, some (.int x), e.fr, none, e :: S, [], F, dpO⟩
set_option maxRecDepth 100000 in
theorem dp_ret (n v : Int) (val : V) (e : En) (S : List En) (G : List Fr) : runK (dpC n) 2 (dpS 23 val none (e :: S) G v) = some (0, dpR 0 e S (dpF :: (G ++ [dpP v]))) := by kernel_rfl
set_option maxRecDepth 100000 in
theorem dp_add (n v x : Int) (q : Nat) (e : En) (S : List En) (F : List Fr) : runK (dpC n) 2 (dpR x ⟨q, 43, [.int v, .proc 0]⟩ (e :: S) F) = some (1, dpR (w64 (v + x)) e S F) := by kernel_rfl
/-- The test of a level. -/
theorem dp_test (n v : Int) (val : V) (S : List En) (G : List Fr) (h1 : 0 < S.length) (h2 : S.length + 1 < 201) : Stp (dpC n) (dpS 13 val none S G v) 1 (dpS 22 (.bool (v == 0)) none (⟨G.length + 1, 22, []⟩ :: S) G v) := by
  have s1 := Stp.pend (dp_f13 n v val none S G) (by decide) h1 (by show S.length < 201; omega)
  have s2 := Stp.pend (dp_f14 n v val none (⟨G.length + 1, 22, []⟩ :: S) G) (by decide) (by simp [dpS]) (by simp [dpS]; omega)
  have s3 := Stp.load (dp_f15 n v val none (⟨G.length + 1, 16, []⟩ :: ⟨G.length + 1, 22, []⟩ :: S) G) (by decide) (dp_first G v 2 2 rfl rfl) (show _ = some dpF from rfl) (show _ = some (V.proc 8) from rfl)
  have s4 := Stp.run 1 (dp_k16 n v val S G)
  have s5 := Stp.load (dp_f17 n v (.proc 8) none (⟨G.length + 1, 18, [.proc 8]⟩ :: ⟨G.length + 1, 22, []⟩ :: S) G) (by decide) (dp_own G v) (dp_get G v) (show _ = some (V.int v) from rfl)
  have s6 := Stp.run 4 (dp_k18 n v val S G)
  exact ((((s1.trans s2).trans s3).trans s4).trans s5).trans s6
/-- A level that goes on, up to the last one that is pending. -/
theorem dp_down (n v : Int) (val : V) (S : List En) (G : List Fr) (h1 : 0 < S.length) (h2 : S.length + 1 < 201) (hv : (v == 0) = false) : Stp (dpC n) (dpS 13 val none S G v) 1 (dpS 33 (.proc 28) none (⟨G.length + 1, 41, [.proc 28]⟩ :: ⟨G.length + 1, 43, [.int v, .proc 0]⟩ :: S) G v) := by
  have s1 := dp_test n v val S G h1 h2
  rw [hv] at s1
  have s2 := Stp.run 1 (dp_no n v val S G)
  have s3 := Stp.pend (dp_f25 n v (.bool false) none S G) (by decide) h1 (by show S.length < 201; omega)
  have s4 := Stp.load (dp_f26 n v (.bool false) none (⟨G.length + 1, 27, []⟩ :: S) G) (by decide) (dp_first G v 3 0 rfl rfl) (show _ = some dpF from rfl) (show _ = some (V.proc 0) from rfl)
  have s5 := Stp.run 1 (dp_k27 n v val S G)
  have s6 := Stp.load (dp_f28 n v (.proc 0) none (⟨G.length + 1, 29, [.proc 0]⟩ :: S) G) (by decide) (dp_own G v) (dp_get G v) (show _ = some (V.int v) from rfl)
  have s7 := Stp.run 1 (dp_k29 n v val S G)
  have s8 := Stp.pend (dp_f30 n v (.int v) none (⟨G.length + 1, 43, [.int v, .proc 0]⟩ :: S) G) (by decide) (by simp [dpS]) (by simp [dpS]; omega)
  have s9 := Stp.load (dp_f31 n v (.int v) none (⟨G.length + 1, 32, []⟩ :: ⟨G.length + 1, 43, [.int v, .proc 0]⟩ :: S) G) (by decide) (dp_first G v 1 3 rfl rfl) (show _ = some dpF from rfl) (show _ = some (V.proc 28) from rfl)
  have s10 := Stp.run 1 (dp_k32 n v val S G)
  exact ((((((((s1.trans s2).trans s3).trans s4).trans s5).trans s6).trans s7).trans s8).trans s9).trans s10
/-- A whole level. -/
theorem dp_level (n v : Int) (val : V) (S : List En) (G : List Fr) (h1 : 0 < S.length) (h2 : S.length + 2 < 201) (hv : (v == 0) = false) : Stp (dpC n) (dpS 13 val none S G v) 3 (dpS 13 (.int (w64 (v - 1))) none (⟨G.length + 1, 43, [.int v, .proc 0]⟩ :: S) (G ++ [dpP v]) (w64 (v - 1))) := by
  have s1 := dp_down n v val S G h1 (by omega) hv
  have s2 := Stp.pend (dp_f33 n v (.proc 28) none (⟨G.length + 1, 41, [.proc 28]⟩ :: ⟨G.length + 1, 43, [.int v, .proc 0]⟩ :: S) G) (by decide) (by simp [dpS]) (by simp [dpS]; omega)
  have s3 := Stp.load (dp_f34 n v (.proc 28) none (⟨G.length + 1, 35, []⟩ :: ⟨G.length + 1, 41, [.proc 28]⟩ :: ⟨G.length + 1, 43, [.int v, .proc 0]⟩ :: S) G) (by decide) (dp_first G v 4 1 rfl rfl) (show _ = some dpF from rfl) (show _ = some (V.proc 2) from rfl)
  have s4 := Stp.run 1 (dp_k35 n v val S G)
  have s5 := Stp.load (dp_f36 n v (.proc 2) none (⟨G.length + 1, 37, [.proc 2]⟩ :: ⟨G.length + 1, 41, [.proc 28]⟩ :: ⟨G.length + 1, 43, [.int v, .proc 0]⟩ :: S) G) (by decide) (dp_own G v) (dp_get G v) (show _ = some (V.int v) from rfl)
  have s6 := Stp.run 6 (dp_k37 n v val S G)
  exact ((((s1.trans s2).trans s3).trans s4).trans s5).trans s6
/-- The sum of the numbers up to v. -/
def tri : Nat → Int
  | 0 => 0
  | v + 1 => ((v + 1 : Nat) : Int) + tri v
theorem tri_in (v : Nat) : 0 ≤ tri v ∧ tri v ≤ (v : Int) * 1000 ∨ 1000 ≤ v := by
  rcases Nat.lt_or_ge v 1000 with h | h
  · left
    induction v with
    | zero => simp [tri]
    | succ v ih => have := ih (by omega); simp only [tri]; omega
  · exact .inr h
theorem dp_done (n : Int) : ∀ (v : Nat) (val : V) (e : En) (S : List En) (G : List Fr), v + S.length < 199 → ∃ F, Stp (dpC n) (dpS 13 val none (e :: S) G (v : Nat)) (4 * v + 1) (dpR (tri v) e S F)
  | 0, val, e, S, G, h => by
    have s1 := dp_test n ((0 : Nat) : Int) val (e :: S) G (by simp) (by simp; omega)
    have s2 := Stp.run 1 (dp_yes n ((0 : Nat) : Int) val (e :: S) G)
    have s3 := Stp.run 2 (dp_ret n ((0 : Nat) : Int) (.bool true) e S G)
    exact ⟨_, (s1.trans s2).trans s3⟩
  | v + 1, val, e, S, G, h => by
    have s1 := dp_level n ((v + 1 : Nat) : Int) val (e :: S) G (by simp) (by simp; omega) (by rw [beq_eq_false_iff_ne]; omega)
    rw [show w64 (((v + 1 : Nat) : Int) - 1) = ((v : Nat) : Int) by rw [w64_of _ (by omega)]; omega] at s1
    obtain ⟨F, s2⟩ := dp_done n v (.int ((v : Nat) : Int)) ⟨G.length + 1, 43, [.int ((v + 1 : Nat) : Int), .proc 0]⟩ (e :: S) (G ++ [dpP ((v + 1 : Nat) : Int)]) (by simp; omega)
    have s3 := Stp.run 2 (dp_add n ((v + 1 : Nat) : Int) (tri v) (G.length + 1) e S F)
    have ht := tri_in v
    rw [w64_of (((v + 1 : Nat) : Int) + tri v) (by omega)] at s3
    refine ⟨F, ?_⟩
    have := (s1.trans s2).trans s3
    rw [show 4 * (v + 1) + 1 = 3 + (4 * v + 1) + 1 by omega]
    exact this
theorem dp_fail (n : Int) : ∀ (j : Nat) (v : Int) (val : V) (S : List En) (G : List Fr), S.length + j = 199 → 0 < S.length → (j : Int) < v → v < 1000 → To (dpC n) (dpS 13 val none S G v) (3 * j + 1) (.err 9 200 [])
  | 0, v, val, S, G, h, h0, hv, hv2 => by
    have s1 := dp_down n v val S G h0 (by omega) (by rw [beq_eq_false_iff_ne]; omega)
    have s2 := To.pend (dp_f33 n v (.proc 28) none (⟨G.length + 1, 41, [.proc 28]⟩ :: ⟨G.length + 1, 43, [.int v, .proc 0]⟩ :: S) G) (by decide) (by simp [dpS]; omega)
    exact s1.to s2
  | j + 1, v, val, S, G, h, h0, hv, hv2 => by
    have s1 := dp_level n v val S G h0 (by omega) (by rw [beq_eq_false_iff_ne]; omega)
    rw [w64_of (v - 1) (by omega)] at s1
    have s2 := dp_fail n j (v - 1) (.int (v - 1)) (⟨G.length + 1, 43, [.int v, .proc 0]⟩ :: S) (G ++ [dpP v]) (by simp; omega) (by simp) (by omega) (by omega)
    have := s1.to s2
    rw [show 3 * (j + 1) + 1 = 3 + (3 * j + 1) by omega]
    exact this
set_option maxRecDepth 100000 in
theorem dp_start (n : Int) : runK (dpC n) 12 (startS (dpC n)) = some (1, dpS 13 (.int n) none [⟨0, 12, []⟩] [] n) := by kernel_rfl
set_option maxRecDepth 100000 in
theorem dp_halt (n x : Int) (F : List Fr) : goS (dpC n) 1 (dpR x ⟨0, 12, []⟩ [] F) 0 0 = some (0, .done ((toldS (.int x)).take 100) []) := by kernel_rfl
theorem dp_end (n x : Int) (F : List Fr) : To (dpC n) (dpR x ⟨0, 12, []⟩ [] F) 0 (.done ((toldS (.int x)).take 100) []) := by
  refine ⟨1, fun m made hl => ?_⟩
  have hf : fetchS (dpC n) (dpR x ⟨0, 12, []⟩ [] F) = some (14, 0) := by kernel_rfl
  have hs : stepS (dpC n) (dpR x ⟨0, 12, []⟩ [] F) = .done ((toldS (.int x)).take 100) [] := by kernel_rfl
  rw [goS, hf]
  simp only
  rw [if_neg (by intro e; exact absurd e.1 (by decide)), hs]
  simp
theorem dp_good (v : Nat) (h : v < 199) : ∃ F, goS (dpC v) F (startS (dpC v)) 5000 0 = some (4 * v + 2, .done ((toldS (.int (tri v))).take 100) []) := by
  have s1 := Stp.run 12 (dp_start v)
  obtain ⟨F, s2⟩ := dp_done v v (.int v) ⟨0, 12, []⟩ [] [] (by simp; omega)
  have := (s1.trans s2).to (dp_end v (tri v) F)
  obtain ⟨F', hF⟩ := this
  exact ⟨F', by have := hF 5000 0 (by omega); rw [this]; congr 2; omega⟩
theorem dp_bad (v : Nat) (h : 199 ≤ v) (h2 : v < 400) : ∃ F, goS (dpC v) F (startS (dpC v)) 5000 0 = some (596, .err 9 200 []) := by
  have s1 := Stp.run 12 (dp_start v)
  have s2 := dp_fail v 198 v (.int v) [⟨0, 12, []⟩] [] (by simp) (by simp) (by omega) (by omega)
  obtain ⟨F', hF⟩ := s1.to s2
  exact ⟨F', by have := hF 5000 0 (by omega); rw [this]⟩
end Go.Proofs.YtlobegpjenabaaaGreatDoor
