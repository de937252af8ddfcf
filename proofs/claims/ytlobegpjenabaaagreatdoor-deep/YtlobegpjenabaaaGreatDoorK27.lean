/- One step of the machine in memory, II: branch, load, set. -/
import Derived.Test.YtlobegpjenabaaaGreatDoorK26
import Derived.LaidEql
namespace Go.Proofs.YtlobegpjenabaaaGreatDoor
open Go.RowKit
set_option linter.unusedSimpArgs false
set_option linter.unusedVariables false

theorem eq_Int_Bool (u v : Value) (w : World) : (Go.binOp .eql 81 (.iface 130 u) (.iface 131 v)).run Tryz.prog w = .ok (.bool false) w := by kernel_rfl
theorem eq_Int_Symbol (u v : Value) (w : World) : (Go.binOp .eql 81 (.iface 130 u) (.iface 134 v)).run Tryz.prog w = .ok (.bool false) w := by kernel_rfl
theorem eq_Int_Empty (u v : Value) (w : World) : (Go.binOp .eql 81 (.iface 130 u) (.iface 207 v)).run Tryz.prog w = .ok (.bool false) w := by kernel_rfl
theorem eq_Int_Nothing (u v : Value) (w : World) : (Go.binOp .eql 81 (.iface 130 u) (.iface 259 v)).run Tryz.prog w = .ok (.bool false) w := by kernel_rfl
theorem eq_Bool_Int (u v : Value) (w : World) : (Go.binOp .eql 81 (.iface 131 u) (.iface 130 v)).run Tryz.prog w = .ok (.bool false) w := by kernel_rfl
theorem eq_Bool_Symbol (u v : Value) (w : World) : (Go.binOp .eql 81 (.iface 131 u) (.iface 134 v)).run Tryz.prog w = .ok (.bool false) w := by kernel_rfl
theorem eq_Bool_Empty (u v : Value) (w : World) : (Go.binOp .eql 81 (.iface 131 u) (.iface 207 v)).run Tryz.prog w = .ok (.bool false) w := by kernel_rfl
theorem eq_Bool_Nothing (u v : Value) (w : World) : (Go.binOp .eql 81 (.iface 131 u) (.iface 259 v)).run Tryz.prog w = .ok (.bool false) w := by kernel_rfl
theorem eq_Symbol_Int (u v : Value) (w : World) : (Go.binOp .eql 81 (.iface 134 u) (.iface 130 v)).run Tryz.prog w = .ok (.bool false) w := by kernel_rfl
theorem eq_Symbol_Bool (u v : Value) (w : World) : (Go.binOp .eql 81 (.iface 134 u) (.iface 131 v)).run Tryz.prog w = .ok (.bool false) w := by kernel_rfl
theorem eq_Symbol_Empty (u v : Value) (w : World) : (Go.binOp .eql 81 (.iface 134 u) (.iface 207 v)).run Tryz.prog w = .ok (.bool false) w := by kernel_rfl
theorem eq_Symbol_Nothing (u v : Value) (w : World) : (Go.binOp .eql 81 (.iface 134 u) (.iface 259 v)).run Tryz.prog w = .ok (.bool false) w := by kernel_rfl
theorem eq_Empty_Int (u v : Value) (w : World) : (Go.binOp .eql 81 (.iface 207 u) (.iface 130 v)).run Tryz.prog w = .ok (.bool false) w := by kernel_rfl
theorem eq_Empty_Bool (u v : Value) (w : World) : (Go.binOp .eql 81 (.iface 207 u) (.iface 131 v)).run Tryz.prog w = .ok (.bool false) w := by kernel_rfl
theorem eq_Empty_Symbol (u v : Value) (w : World) : (Go.binOp .eql 81 (.iface 207 u) (.iface 134 v)).run Tryz.prog w = .ok (.bool false) w := by kernel_rfl
theorem eq_Empty_Nothing (u v : Value) (w : World) : (Go.binOp .eql 81 (.iface 207 u) (.iface 259 v)).run Tryz.prog w = .ok (.bool false) w := by kernel_rfl
theorem eq_Nothing_Int (u v : Value) (w : World) : (Go.binOp .eql 81 (.iface 259 u) (.iface 130 v)).run Tryz.prog w = .ok (.bool false) w := by kernel_rfl
theorem eq_Nothing_Bool (u v : Value) (w : World) : (Go.binOp .eql 81 (.iface 259 u) (.iface 131 v)).run Tryz.prog w = .ok (.bool false) w := by kernel_rfl
theorem eq_Nothing_Symbol (u v : Value) (w : World) : (Go.binOp .eql 81 (.iface 259 u) (.iface 134 v)).run Tryz.prog w = .ok (.bool false) w := by kernel_rfl
theorem eq_Nothing_Empty (u v : Value) (w : World) : (Go.binOp .eql 81 (.iface 259 u) (.iface 207 v)).run Tryz.prog w = .ok (.bool false) w := by kernel_rfl
theorem eq_Int_Pair (u v : Value) (w : World) : (Go.binOp .eql 81 (.iface 130 u) (.iface 136 v)).run Tryz.prog w = .ok (.bool false) w := by kernel_rfl
theorem eq_Int_Proc (u v : Value) (w : World) : (Go.binOp .eql 81 (.iface 130 u) (.iface 216 v)).run Tryz.prog w = .ok (.bool false) w := by kernel_rfl
theorem eq_Pair_Int (u v : Value) (w : World) : (Go.binOp .eql 81 (.iface 136 u) (.iface 130 v)).run Tryz.prog w = .ok (.bool false) w := by kernel_rfl
theorem eq_Proc_Int (u v : Value) (w : World) : (Go.binOp .eql 81 (.iface 216 u) (.iface 130 v)).run Tryz.prog w = .ok (.bool false) w := by kernel_rfl
theorem eq_Bool_Pair (u v : Value) (w : World) : (Go.binOp .eql 81 (.iface 131 u) (.iface 136 v)).run Tryz.prog w = .ok (.bool false) w := by kernel_rfl
theorem eq_Bool_Proc (u v : Value) (w : World) : (Go.binOp .eql 81 (.iface 131 u) (.iface 216 v)).run Tryz.prog w = .ok (.bool false) w := by kernel_rfl
theorem eq_Pair_Bool (u v : Value) (w : World) : (Go.binOp .eql 81 (.iface 136 u) (.iface 131 v)).run Tryz.prog w = .ok (.bool false) w := by kernel_rfl
theorem eq_Proc_Bool (u v : Value) (w : World) : (Go.binOp .eql 81 (.iface 216 u) (.iface 131 v)).run Tryz.prog w = .ok (.bool false) w := by kernel_rfl
theorem eq_Symbol_Pair (u v : Value) (w : World) : (Go.binOp .eql 81 (.iface 134 u) (.iface 136 v)).run Tryz.prog w = .ok (.bool false) w := by kernel_rfl
theorem eq_Symbol_Proc (u v : Value) (w : World) : (Go.binOp .eql 81 (.iface 134 u) (.iface 216 v)).run Tryz.prog w = .ok (.bool false) w := by kernel_rfl
theorem eq_Pair_Symbol (u v : Value) (w : World) : (Go.binOp .eql 81 (.iface 136 u) (.iface 134 v)).run Tryz.prog w = .ok (.bool false) w := by kernel_rfl
theorem eq_Proc_Symbol (u v : Value) (w : World) : (Go.binOp .eql 81 (.iface 216 u) (.iface 134 v)).run Tryz.prog w = .ok (.bool false) w := by kernel_rfl
theorem eq_Empty_Pair (u v : Value) (w : World) : (Go.binOp .eql 81 (.iface 207 u) (.iface 136 v)).run Tryz.prog w = .ok (.bool false) w := by kernel_rfl
theorem eq_Empty_Proc (u v : Value) (w : World) : (Go.binOp .eql 81 (.iface 207 u) (.iface 216 v)).run Tryz.prog w = .ok (.bool false) w := by kernel_rfl
theorem eq_Pair_Empty (u v : Value) (w : World) : (Go.binOp .eql 81 (.iface 136 u) (.iface 207 v)).run Tryz.prog w = .ok (.bool false) w := by kernel_rfl
theorem eq_Proc_Empty (u v : Value) (w : World) : (Go.binOp .eql 81 (.iface 216 u) (.iface 207 v)).run Tryz.prog w = .ok (.bool false) w := by kernel_rfl
theorem eq_Nothing_Pair (u v : Value) (w : World) : (Go.binOp .eql 81 (.iface 259 u) (.iface 136 v)).run Tryz.prog w = .ok (.bool false) w := by kernel_rfl
theorem eq_Nothing_Proc (u v : Value) (w : World) : (Go.binOp .eql 81 (.iface 259 u) (.iface 216 v)).run Tryz.prog w = .ok (.bool false) w := by kernel_rfl
theorem eq_Pair_Nothing (u v : Value) (w : World) : (Go.binOp .eql 81 (.iface 136 u) (.iface 259 v)).run Tryz.prog w = .ok (.bool false) w := by kernel_rfl
theorem eq_Proc_Nothing (u v : Value) (w : World) : (Go.binOp .eql 81 (.iface 216 u) (.iface 259 v)).run Tryz.prog w = .ok (.bool false) w := by kernel_rfl
theorem eq_Pair_Proc (u v : Value) (w : World) : (Go.binOp .eql 81 (.iface 136 u) (.iface 216 v)).run Tryz.prog w = .ok (.bool false) w := by kernel_rfl
theorem eq_Proc_Pair (u v : Value) (w : World) : (Go.binOp .eql 81 (.iface 216 u) (.iface 136 v)).run Tryz.prog w = .ok (.bool false) w := by kernel_rfl
theorem eq_Int_Int (a b : Int) (w : World) : (Go.binOp .eql 81 (.iface 130 (.int .i64 a)) (.iface 130 (.int .i64 b))).run Tryz.prog w = .ok (.bool (a == b)) w := by kernel_rfl
theorem eq_Bool_Bool (a b : Bool) (w : World) : (Go.binOp .eql 81 (.iface 131 (.bool a)) (.iface 131 (.bool b))).run Tryz.prog w = .ok (.bool (a == b)) w := by kernel_rfl
theorem eq_Sym_Sym (a b : ByteArray) (w : World) : (Go.binOp .eql 81 (.iface 134 (.string a)) (.iface 134 (.string b))).run Tryz.prog w = .ok (.bool (a == b)) w := by kernel_rfl
theorem eq_Empty_Empty (w : World) : (Go.binOp .eql 81 (.iface 207 (.agg #[])) (.iface 207 (.agg #[]))).run Tryz.prog w = .ok (.bool true) w := by kernel_rfl
theorem eq_Nothing_Nothing (w : World) : (Go.binOp .eql 81 (.iface 259 (.agg #[])) (.iface 259 (.agg #[]))).run Tryz.prog w = .ok (.bool true) w := by kernel_rfl
theorem eq_ptr {tp te : TypeId} (hp : Tryz.prog.underlying tp = some (.pointer te)) (hc : (Tryz.prog.info? tp).map (fun i => i.comparable) = some true) (hs : (Tryz.prog.info? te).map (fun i => decide (i.size = 0)) = some false) (g k : Nat) (w : World) {cg ck : Array Value} {tg tk : TypeId} (hg : w.heap[g]? = some (.cells cg tg (0, 0))) (hk : w.heap[k]? = some (.cells ck tk (0, 0))) :
    (Go.binOp .eql 81 (.iface tp (.pointer (some ⟨g, 0, none⟩))) (.iface tp (.pointer (some ⟨k, 0, none⟩)))).run Tryz.prog w = .ok (.bool (g == k)) w := by
  obtain ⟨i, hi, hi2⟩ := Option.map_eq_some_iff.1 hc
  obtain ⟨j, hj, hj2⟩ := Option.map_eq_some_iff.1 hs
  by_cases e : g = k
  · subst e
    rw [run_eql_iface_ptr_same w ⟨g, 0, none⟩ Tryz.underlying81 hp hi hi2 hj]; simp
  · rw [run_eql_iface_ptr_other w Tryz.underlying81 hp hi hi2 hj (by simpa using hj2) (by intro h; injection h with h1; exact e h1) hg hk]
    simp [e]
theorem comp_Pair : (Tryz.prog.info? 136).map (fun i => i.comparable) = some true := by kernel_rfl
theorem comp_Proc : (Tryz.prog.info? 216).map (fun i => i.comparable) = some true := by kernel_rfl
theorem size_Pair : (Tryz.prog.info? 205).map (fun i => decide (i.size = 0)) = some false := by kernel_rfl
theorem size_Proc : (Tryz.prog.info? 220).map (fun i => decide (i.size = 0)) = some false := by kernel_rfl

/-- What == says of values in memory. -/
theorem eql_V {w : World} {mo : Nat → Option Nat} (inj : ∀ i j g, mo i = some g → mo j = some g → i = j) (hl : ∀ k g, mo (2 * k) = some g → ∃ c T, w.heap[g]? = some (Obj.cells c T (0, 0)) ∧ MT.contains T = false) : ∀ (a b : V) (x y : Value), VX w mo a x → VX w mo b y → (Go.binOp .eql 81 x y).run Tryz.prog w = .ok (.bool (sameV a b)) w := by
  intro a b x y ha hb
  cases a with
  | int m =>
    obtain ⟨rfl, _⟩ := ha
    cases b with
    | int n => obtain ⟨rfl, _⟩ := hb; exact eq_Int_Int m n w
    | bool q => cases hb; exact eq_Int_Bool _ _ w
    | sym s => obtain ⟨rfl, _⟩ := hb; exact eq_Int_Symbol _ _ w
    | empty => cases hb; exact eq_Int_Empty _ _ w
    | nothing => cases hb; exact eq_Int_Nothing _ _ w
    | pair i p q => obtain ⟨g, u, v, _, rfl, _⟩ := hb; exact eq_Int_Pair _ _ w
    | proc i => obtain ⟨_, g, _, rfl⟩ := hb; exact eq_Int_Proc _ _ w
  | bool m =>
    cases ha
    cases b with
    | int n => obtain ⟨rfl, _⟩ := hb; exact eq_Bool_Int _ _ w
    | bool q => cases hb; exact eq_Bool_Bool m q w
    | sym s => obtain ⟨rfl, _⟩ := hb; exact eq_Bool_Symbol _ _ w
    | empty => cases hb; exact eq_Bool_Empty _ _ w
    | nothing => cases hb; exact eq_Bool_Nothing _ _ w
    | pair i p q => obtain ⟨g, u, v, _, rfl, _⟩ := hb; exact eq_Bool_Pair _ _ w
    | proc i => obtain ⟨_, g, _, rfl⟩ := hb; exact eq_Bool_Proc _ _ w
  | sym m =>
    obtain ⟨rfl, _⟩ := ha
    cases b with
    | int n => obtain ⟨rfl, _⟩ := hb; exact eq_Symbol_Int _ _ w
    | bool q => cases hb; exact eq_Symbol_Bool _ _ w
    | sym s =>
      obtain ⟨rfl, _⟩ := hb
      rw [eq_Sym_Sym]
      congr 2
      show (m.toArray == s.toArray) = (m == s)
      simp
    | empty => cases hb; exact eq_Symbol_Empty _ _ w
    | nothing => cases hb; exact eq_Symbol_Nothing _ _ w
    | pair i p q => obtain ⟨g, u, v, _, rfl, _⟩ := hb; exact eq_Symbol_Pair _ _ w
    | proc i => obtain ⟨_, g, _, rfl⟩ := hb; exact eq_Symbol_Proc _ _ w
  | empty =>
    cases ha
    cases b with
    | int n => obtain ⟨rfl, _⟩ := hb; exact eq_Empty_Int _ _ w
    | bool q => cases hb; exact eq_Empty_Bool _ _ w
    | sym s => obtain ⟨rfl, _⟩ := hb; exact eq_Empty_Symbol _ _ w
    | empty => cases hb; first | exact eq_Empty_Empty _ _ w | exact eq_Empty_Empty w
    | nothing => cases hb; first | exact eq_Empty_Nothing _ _ w | exact eq_Nothing_Nothing w
    | pair i p q => obtain ⟨g, u, v, _, rfl, _⟩ := hb; exact eq_Empty_Pair _ _ w
    | proc i => obtain ⟨_, g, _, rfl⟩ := hb; exact eq_Empty_Proc _ _ w
  | nothing =>
    cases ha
    cases b with
    | int n => obtain ⟨rfl, _⟩ := hb; exact eq_Nothing_Int _ _ w
    | bool q => cases hb; exact eq_Nothing_Bool _ _ w
    | sym s => obtain ⟨rfl, _⟩ := hb; exact eq_Nothing_Symbol _ _ w
    | empty => cases hb; first | exact eq_Nothing_Empty _ _ w | exact eq_Empty_Empty w
    | nothing => cases hb; first | exact eq_Nothing_Nothing _ _ w | exact eq_Nothing_Nothing w
    | pair i p q => obtain ⟨g, u, v, _, rfl, _⟩ := hb; exact eq_Nothing_Pair _ _ w
    | proc i => obtain ⟨_, g, _, rfl⟩ := hb; exact eq_Nothing_Proc _ _ w
  | pair i p q =>
    obtain ⟨g, u, v, hg, rfl, hgc, _⟩ := ha
    cases b with
    | int n => obtain ⟨rfl, _⟩ := hb; exact eq_Pair_Int _ _ w
    | bool q => cases hb; exact eq_Pair_Bool _ _ w
    | sym s => obtain ⟨rfl, _⟩ := hb; exact eq_Pair_Symbol _ _ w
    | empty => cases hb; exact eq_Pair_Empty _ _ w
    | nothing => cases hb; exact eq_Pair_Nothing _ _ w
    | pair j p' q' =>
      obtain ⟨k, u', v', hk, rfl, hkc, _⟩ := hb
      rw [eq_ptr Tryz.underlying136 comp_Pair size_Pair g k w hgc hkc]
      congr 2
      show (g == k) = (i == j)
      rw [Bool.eq_iff_iff, beq_iff_eq, beq_iff_eq]
      exact ⟨fun e => by subst e; exact inj _ _ _ hg hk, fun e => by subst e; rw [hg] at hk; cases hk; rfl⟩
    | proc i => obtain ⟨_, g, _, rfl⟩ := hb; exact eq_Pair_Proc _ _ w
  | proc i =>
    obtain ⟨h2, g, hg, rfl⟩ := ha
    cases b with
    | int n => obtain ⟨rfl, _⟩ := hb; exact eq_Proc_Int _ _ w
    | bool q => cases hb; exact eq_Proc_Bool _ _ w
    | sym s => obtain ⟨rfl, _⟩ := hb; exact eq_Proc_Symbol _ _ w
    | empty => cases hb; exact eq_Proc_Empty _ _ w
    | nothing => cases hb; exact eq_Proc_Nothing _ _ w
    | pair j p' q' => obtain ⟨k, u', v', hk, rfl, hkc, _⟩ := hb; exact eq_Proc_Pair _ _ w
    | proc j =>
      obtain ⟨h3, k, hk, rfl⟩ := hb
      obtain ⟨cg, tg, hgc, _⟩ := hl (i / 2) g (by rw [show 2 * (i / 2) = i by omega]; exact hg)
      obtain ⟨ck, tk, hkc, _⟩ := hl (j / 2) k (by rw [show 2 * (j / 2) = j by omega]; exact hk)
      rw [eq_ptr Tryz.underlying216 comp_Proc size_Proc g k w hgc hkc]
      congr 2
      show (g == k) = (i == j)
      rw [Bool.eq_iff_iff, beq_iff_eq, beq_iff_eq]
      exact ⟨fun e => by subst e; exact inj _ _ _ hg hk, fun e => by subst e; rw [hg] at hk; cases hk; rfl⟩
end Go.Proofs.YtlobegpjenabaaaGreatDoor

/- One step of the machine in memory, III: branch, load, set, define. -/
namespace Go.Proofs.YtlobegpjenabaaaGreatDoor
open Go.RowKit
set_option linter.unusedSimpArgs false
set_option linter.unusedVariables false

theorem ne_types {w : World} {k k' : Nat} {c c' : Array Value} {T T' : TypeId} (h : w.heap[k]? = some (Obj.cells c T (0, 0))) (h' : w.heap[k']? = some (Obj.cells c' T' (0, 0))) (hT : T ≠ T') : k ≠ k' := fun e => by
  subst e
  have := Option.some.inj (h.symm.trans h')
  injection this with _ h2
  exact hT h2
/-- Is it #f? (Whatever the world.) -/
theorem eql_false {w : World} {mo : Nat → Option Nat} {a : V} {t : TypeId} {x : Value} (ha : VX w mo a (.iface t x)) (W : World) : (Go.binOp .eql 81 (.iface t x) (.iface 131 (.bool false))).run Tryz.prog W = .ok (.bool (sameV a (.bool false))) W := by
  cases a with
  | int n => obtain ⟨e, _⟩ := ha; cases e; exact eq_Int_Bool _ _ W
  | bool q => cases ha; exact eq_Bool_Bool q false W
  | sym s => obtain ⟨e, _⟩ := ha; cases e; exact eq_Symbol_Bool _ _ W
  | empty => cases ha; exact eq_Empty_Bool _ _ W
  | nothing => cases ha; exact eq_Nothing_Bool _ _ W
  | pair i p q => obtain ⟨g, u, v, _, e, _⟩ := ha; cases e; exact eq_Pair_Bool _ _ W
  | proc i => obtain ⟨_, g, _, e⟩ := ha; cases e; exact eq_Proc_Bool _ _ W
/-- Is it the empty list? -/
theorem eql_empty {w : World} {mo : Nat → Option Nat} {a : V} {t : TypeId} {x : Value} (ha : VX w mo a (.iface t x)) (W : World) : (Go.binOp .eql 81 (.iface t x) (.iface 207 (.agg #[]))).run Tryz.prog W = .ok (.bool (sameV a .empty)) W := by
  cases a with
  | int n => obtain ⟨e, _⟩ := ha; cases e; exact eq_Int_Empty _ _ W
  | bool q => cases ha; exact eq_Bool_Empty _ _ W
  | sym s => obtain ⟨e, _⟩ := ha; cases e; exact eq_Symbol_Empty _ _ W
  | empty => cases ha; exact eq_Empty_Empty W
  | nothing => cases ha; exact eq_Nothing_Empty _ _ W
  | pair i p q => obtain ⟨g, u, v, _, e, _⟩ := ha; cases e; exact eq_Pair_Empty _ _ W
  | proc i => obtain ⟨_, g, _, e⟩ := ha; cases e; exact eq_Proc_Empty _ _ W

theorem branch_step {B K : Nat} {w : World} {X : Nat → Prop} {ow mo mf : Nat → Option Nat} {M b : Nat} {C : Cd} {s : MS} {val app args out : Value} {top : Option Addr} {gf : Nat} (h : RS B K w X ow mo mf M b C s val app args out top gf) (hM : w.heap[M]? = some (Obj.cells (mcC b s.pc val (ptrV gf) app args (.pointer top) out 0 0 0 ⟨#[]⟩) 119 (0, 0))) (n : Int) (hn : opS C s 8 n ≠ .bad) : Calls Tryz.prog 124 #[.pointer (some ⟨M, 0, none⟩), .int .i64 n] w (StepPost B K X ow w M b C (opS C s 8 n)) := by
  obtain ⟨k0, k1, k2, k3, k4, k5, k6, k7, k8, k9, k10, k11⟩ := mc_cell hM
  have hst := h.st
  have hv := h.val
  simp only [opS] at hn ⊢
  cases hs : s.st with
  | nil => rw [hs] at hn; exact absurd rfl hn
  | cons en r =>
    rw [hs] at hst hn
    cases hsv : s.val with
    | none => rw [hsv] at hn; exact absurd rfl hn
    | some v =>
      rw [hsv] at hv
      have hv : VX w mo v val := hv
      obtain ⟨t, x, rfl⟩ := hv.form
      obtain ⟨g, q, gf0, got, rfl, hg, _, _, _, _, hr⟩ := hst
      have c0 := cell_of_block hg 0
      refine (branch_raw w M g n s.pc q t x (sameV v (.bool false)) (ne_types hg hM (by decide)) k6 (frozen_of_block hM 6) c0 k2 k1 (frozen_of_block hM 1) (eql_false hv)).mono ?_
      rintro e w' ⟨rfl, rfl⟩
      cases hb : sameV v (.bool false) with
      | false =>
        simp only [hb, Bool.false_eq_true, if_false]
        refine ⟨rfl, h.go hM (setM w M 6 _) _ (.iface t x) app args q gf ((heap_setCell_same hM).trans rfl) rfl rfl rfl fun h' => ⟨by have := h'.val; rw [hsv] at this; exact this, h'.fr, h'.app, hr.keepM hM (setM w M 6 _)⟩⟩
      | true =>
        simp only [hb, if_true]
        have hu : Upd (fun k => k = M) w ((w.setCell ⟨M, 6, none⟩ (.pointer q)).setCell ⟨M, 1, none⟩ (.int .i64 n)) := (setM w M 6 _).setCell _ _ (fun _ => rfl)
        refine ⟨rfl, h.go hM hu _ (.iface t x) app args q gf ((heap_setCell_same (heap_setCell_same hM)).trans rfl) rfl rfl rfl fun h' => ⟨by have := h'.val; rw [hsv] at this; exact this, h'.fr, h'.app, hr.keepM hM hu⟩⟩
theorem load_step {B K : Nat} {w : World} {X : Nat → Prop} {ow mo mf : Nat → Option Nat} {M b : Nat} {C : Cd} {s : MS} {val app args out : Value} {top : Option Addr} {gf : Nat} (h : RS B K w X ow mo mf M b C s val app args out top gf) (hM : w.heap[M]? = some (Obj.cells (mcC b s.pc val (ptrV gf) app args (.pointer top) out 0 0 0 ⟨#[]⟩) 119 (0, 0))) (n : Int) (hn : opS C s 2 n ≠ .bad) : Calls Tryz.prog 118 #[.pointer (some ⟨M, 0, none⟩), .int .i64 n] w (StepPost B K X ow w M b C (opS C s 2 n)) := by
  obtain ⟨k0, k1, k2, k3, k4, k5, k6, k7, k8, k9, k10, k11⟩ := mc_cell hM
  have hfl : s.fr < s.frs.length := h.fdm _ _ h.fr
  have HF := find_go h s.fr gf hfl h.fr n
  simp only [opS] at hn ⊢
  cases hfs : findS s.frs (s.fr + 1) s.fr n with
  | none =>
    rw [hfs] at hn HF
    refine (load_none w M gf n k3 (hide (HF.mono fun e w' hp => ⟨hp.2, hp.1⟩))).mono ?_
    rintro e w' ⟨rfl, hw⟩
    exact err_step h hM 5 _ 0 (by omega) rfl w' hw hn
  | some fj =>
    obtain ⟨f, j⟩ := fj
    rw [hfs] at hn HF
    simp only [] at hn ⊢
    cases hfr : s.frs[f]? with
    | none => rw [hfr] at hn; exact absurd rfl hn
    | some fr =>
      rw [hfr] at hn
      simp only [] at hn ⊢
      cases hvj : fr.vs[j]? with
      | none => rw [hvj] at hn; exact absurd rfl hn
      | some v =>
        refine (load_some w M gf n _ (fun gv o => ∃ y, w.cell? ⟨gv, o, none⟩ = some y ∧ VX w mo v y) k3 k2 (frozen_of_block hM 2) (hide ?_) (hide (HF.mono ?_))).mono ?_
        · rintro gv o ⟨y, hy, hv⟩
          obtain ⟨t, x, rfl⟩ := hv.form
          exact ⟨t, x, hy⟩
        · rintro e w' ⟨hw, fr', g', pn, nv, gv, off, cap, op, xs, h1, h2, h3, h4, h5⟩
          rw [hfr] at h1
          cases h1
          obtain ⟨y, hy, hv⟩ := VXs.get j v h3.vs hvj
          obtain ⟨a, cap', hx, _, _, _, hc⟩ := h3.vr.at
          obtain ⟨gg, oo, c, ha, _, _, hcell⟩ := hc j h4
          cases hx
          cases ha
          rw [List.getElem?_eq_getElem h4] at hy
          cases hy
          exact ⟨hw, gv, off + j, ⟨_, hcell, hv⟩, h5⟩
        · rintro e w' ⟨gv, o, t, x, ⟨y, hy, hv⟩, hc, rfl, rfl⟩
          rw [hc] at hy
          cases hy
          exact ⟨rfl, h.go hM (setM w M 2 _) _ (.iface t x) app args top gf ((heap_setCell_same hM).trans rfl) rfl rfl rfl fun h' => ⟨hv.keepM hM (setM w M 2 _), h'.fr, h'.app, h'.st⟩⟩
theorem set_step {B K : Nat} {w : World} {X : Nat → Prop} {ow mo mf : Nat → Option Nat} {M b : Nat} {C : Cd} {s : MS} {val app args out : Value} {top : Option Addr} {gf : Nat} (h : RS B K w X ow mo mf M b C s val app args out top gf) (hM : w.heap[M]? = some (Obj.cells (mcC b s.pc val (ptrV gf) app args (.pointer top) out 0 0 0 ⟨#[]⟩) 119 (0, 0))) (n : Int) (hn : opS C s 10 n ≠ .bad) : Calls Tryz.prog 126 #[.pointer (some ⟨M, 0, none⟩), .int .i64 n] w (StepPost B K X ow w M b C (opS C s 10 n)) := by
  obtain ⟨k0, k1, k2, k3, k4, k5, k6, k7, k8, k9, k10, k11⟩ := mc_cell hM
  have hst := h.st
  have hv := h.val
  simp only [opS] at hn ⊢
  cases hs : s.st with
  | nil => rw [hs] at hn; exact absurd rfl hn
  | cons en r =>
    rw [hs] at hst hn
    cases hsv : s.val with
    | none => rw [hsv] at hn; exact absurd rfl hn
    | some v =>
      rw [hsv] at hv hn
      have hv : VX w mo v val := hv
      obtain ⟨t, x, rfl⟩ := hv.form
      obtain ⟨g, q, gf0, got, rfl, hg, _, _, _, _, hr⟩ := hst
      have c0 := cell_of_block hg 0
      have hu1 := setM w M 6 (.pointer q)
      have hM1 : (w.setCell ⟨M, 6, none⟩ (.pointer q)).heap[M]? = some (Obj.cells (mcC b s.pc (.iface t x) (ptrV gf) app args (.pointer q) out 0 0 0 ⟨#[]⟩) 119 (0, 0)) := (heap_setCell_same hM).trans rfl
      have h1 := (h.ext hM hu1 hM1).regs { s with st := r } (.iface t x) app args q gf rfl rfl rfl (by have := OV.keep (Go.Proofs.YtlobegpjenabaaaGreatDoor.keepM hM hu1 (by decide)) (Le.refl _) _ _ h.val; exact this) h.fr (h.ext hM hu1 hM1).app (hr.keepM hM hu1)
      have hfl : s.fr < s.frs.length := h.fdm _ _ h.fr
      have HF := find_go h1 s.fr gf hfl h.fr n
      simp only [] at hn HF ⊢
      have hgw1 := h.gw hu1
      cases hfs : findS s.frs (s.fr + 1) s.fr n with
      | none =>
        rw [hfs] at hn HF
        refine (set_none w M g gf n q k6 (frozen_of_block hM 6) c0 k3 (hide (HF.mono fun e w' hp => ⟨hp.2, hp.1⟩))).mono ?_
        rintro e w' ⟨rfl, rfl⟩
        have hn' : errS { s with st := r } 5 ≠ .bad := by rw [hsv]; exact hn
        unfold errS at hn ⊢
        cases r with
        | nil => exact absurd rfl hn
        | cons e' r' => exact ⟨wrongV 5, 0, rfl, by omega, rfl, X, ow, { s with st := e' :: r' }, MR.self h1 hM1, hgw1, rfl, rfl⟩
      | some fj =>
        obtain ⟨f, j⟩ := fj
        rw [hfs] at hn HF
        simp only [] at hn HF ⊢
        cases hfr : s.frs[f]? with
        | none => rw [hfr] at hn; exact absurd rfl hn
        | some fr =>
          refine (set_some w M g gf n q t x (fun gv o => ∃ g' pn nv off cap op xs, mf f = some g' ∧ FrR (w.setCell ⟨M, 6, none⟩ (.pointer q)) X ow mo mf f fr g' pn nv (.slice (some ⟨gv, off, none⟩) xs.length cap) op xs ∧ j < xs.length ∧ o = off + j) k6 (frozen_of_block hM 6) c0 k3 k2 (frozen_of_block hM 2) (hide ?_) (hide (HF.mono ?_))).mono ?_
          · rintro gv o ⟨g', pn, nv, off, cap, op, xs, hg', hF, hj, rfl⟩
            obtain ⟨a, cap', hx, _, _, _, hc⟩ := hF.vr.at
            obtain ⟨gg, oo, c, ha, _, hbl, hcell⟩ := hc j hj
            cases hx
            cases ha
            have hne : gv ≠ M := ne_types hbl hM1 (by decide)
            have hbl0 : w.heap[gv]? = some (Obj.cells c 81 (0, 0)) := by rw [← heap_set_ne w M 6 gv _ hne]; exact hbl
            refine ⟨hne, ⟨xs[j], ?_⟩, frozen_of_block hbl0 _⟩
            rw [cell_of_block hbl0, ← cell_of_block hbl]; exact hcell
          · rintro e w' ⟨hw, fr', g', pn, nv, gv, off, cap, op, xs, h1', h2, h3, h4, h5⟩
            have h1' : s.frs[f]? = some fr' := h1'
            rw [hfr] at h1'
            cases h1'
            exact ⟨hw, gv, off + j, ⟨g', pn, nv, off, cap, op, xs, h2, h3, h4, rfl⟩, h5⟩
          · rintro e w' ⟨gv, o, ⟨g', pn, nv, off, cap, op, xs, hg', hF, hj, rfl⟩, rfl, rfl⟩
            obtain ⟨a, cap', hx, _, _, _, hc⟩ := hF.vr.at
            obtain ⟨gg, oo, c, ha, howg, hbl, hcell⟩ := hc j hj
            cases hx
            cases ha
            have howg : ow gv = some (f + 1) := howg.elim id id
            have hne : gv ≠ M := ne_types hbl hM1 (by decide)
            have hfl2 : f < s.frs.length := (List.getElem?_eq_some_iff.1 hfr).1
            have kp : ∀ T, T ≠ 81 → Keep T (w.setCell ⟨M, 6, none⟩ (.pointer q)) ((w.setCell ⟨M, 6, none⟩ (.pointer q)).setCell ⟨gv, off + j, none⟩ (.iface t x)) := fun T hT => keep_set hbl hT
            have hu2 : Upd (fun k => ow k = some (f + 1)) (w.setCell ⟨M, 6, none⟩ (.pointer q)) ((w.setCell ⟨M, 6, none⟩ (.pointer q)).setCell ⟨gv, off + j, none⟩ (.iface t x)) := (Upd.refl _ _).setCell _ _ (fun _ => howg)
            have hv1 : VX (w.setCell ⟨M, 6, none⟩ (.pointer q)) mo v (.iface t x) := hv.keepM hM hu1
            have h2 := h1.setf f (fr.put j v) hfl2 hu2 (X' := X) (ow' := ow) (fun _ _ h => h) (fun _ _ _ => rfl) h1.owx (fun k hk _ => by
                obtain ⟨_, c', T, hkc, hT⟩ := h1.xty k hk
                by_cases e : k = gv
                · subst e; rw [hbl] at hkc; cases hkc; exact ⟨_, _, heap_setCell_same hbl, by decide⟩
                · exact ⟨c', T, by rw [heap_set_ne _ _ _ _ _ e]; exact hkc, hT⟩)
              ⟨g', pn, nv, .slice (some ⟨gv, off, none⟩) xs.length cap, op, xs.set j (.iface t x), hg', ⟨hF.tag, kp _ (by decide) _ _ hF.hS, hF.nr.keep (kp _ (by decide)), hF.vr.put j _ hj, VXs.set j v _ (VXs.keep (kp _ (by decide)) (Le.refl _) _ _ hF.vs) (VX.keep (kp _ (by decide)) (Le.refl _) _ _ hv1), hF.out, by simp [Fr.put, hF.len], hF.le⟩⟩
            have hM2 := heap_set_other (a := ⟨gv, off + j, none⟩) (v := .iface t x) hM1 (fun e => hne e.symm)
            have hgw2 : Gw X ow (w.setCell ⟨M, 6, none⟩ (.pointer q)) X ow ((w.setCell ⟨M, 6, none⟩ (.pointer q)).setCell ⟨gv, off + j, none⟩ (.iface t x)) := ⟨hu2.mono (fun k e => by rw [e]; simp), fun _ _ h _ => h, fun _ _ h => h, fun _ _ h => h⟩
            obtain ⟨X', ow', hMR, hG⟩ := h2.go hM2 (setM _ M 2 (.iface 259 (.agg #[]))) { s with st := r, val := some .nothing, frs := s.frs.set f (fr.put j v) } (.iface 259 (.agg #[])) app args q gf ((heap_setCell_same hM2).trans rfl) rfl rfl rfl (fun h' => ⟨rfl, h'.fr, h'.app, h'.st⟩)
            exact ⟨rfl, X', ow', hMR, (hgw1.trans hgw2).trans hG⟩
theorem RS.drew {B K : Nat} {w : World} {X : Nat → Prop} {ow mo mf : Nat → Option Nat} {M b : Nat} {C : Cd} {s : MS} {val app args out : Value} {top : Option Addr} {gf : Nat} (h : RS B K w X ow mo mf M b C s val app args out top gf) : RS B K w.drew X ow mo mf M b C s val app args out top gf := by
  have hk : ∀ T, Keep T w w.drew := fun T _ _ hx => hx
  obtain ⟨c, u0, u1, u2, u3, x1, x3, hc⟩ := h.code
  exact ⟨⟨c, u0, u1, u2, u3, x1, x3, hc.keep (fun _ _ => hk _) (Nat.le_refl _) (fun b hb hn => ⟨hn, rfl⟩)⟩, OV.keep (hk _) (Le.refl _) _ _ h.val, h.fr, h.app.keep (hk _) (Le.refl _) (fun b c hb hc => ⟨hb, hc⟩), h.st.keep (hk _) (hk _) (hk _) (Le.refl _) (Le.refl _), h.out.keep (fun b c hb hc => ⟨hb, hc⟩), fun i fr hi => (by obtain ⟨g, pn, nv, vv, op, xs, h1, h2⟩ := h.frs i fr hi; exact ⟨g, pn, nv, vv, op, xs, h1, h2.keep (hk _) (Le.refl _) (Le.refl _) (fun b hb hw => ⟨hw, rfl⟩) (fun b hb hn => ⟨hn, rfl⟩)⟩), fun j p hp => (h.obs j p hp).keep (fun _ _ => hk _) (Le.refl _) (Le.refl _) (fun b hb hn => ⟨hn, rfl⟩), h.mlt, h.mdm, h.mcl, h.inj, h.mcd, h.fdm, h.owx, h.xty, h.owM, h.tab.below ((Below.refl _ _).drew), h.hB⟩
end Go.Proofs.YtlobegpjenabaaaGreatDoor
