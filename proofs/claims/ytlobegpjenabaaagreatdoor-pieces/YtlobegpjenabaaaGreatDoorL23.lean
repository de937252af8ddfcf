/- One step of the machine in memory, II: branch, load, set. -/
import Derived.Test.YtlobegpjenabaaaGreatDoorL22
import Derived.LaidEql
namespace Go.Proofs.YtlobegpjenabaaaGreatDoor
open Go.RowKit
set_option linter.unusedSimpArgs false
set_option linter.unusedVariables false

theorem eq_Int_Bool (u v : Value) (w : World) : (Go.binOp .eql 81 (.iface 130 u) (.iface 131 v)).run Tryz.prog w = .ok (.bool false) w := by kernel_rfl
theorem eq_Int_Symbol (u v : Value) (w : World) : (Go.binOp .eql 81 (.iface 130 u) (.iface 134 v)).run Tryz.prog w = .ok (.bool false) w := by kernel_rfl
theorem eq_Int_Empty (u v : Value) (w : World) : (Go.binOp .eql 81 (.iface 130 u) (.iface 207 v)).run Tryz.prog w = .ok (.bool false) w := by kernel_rfl
theorem eq_Int_Nothing (u v : Value) (w : World) : (Go.binOp .eql 81 (.iface 130 u) (.iface 259 v)).run Tryz.prog w = .ok (.bool false) w := by kernel_rfl
theorem eq_Bool_Int (u v : Value) (w : World) : (Go.binOp .eql 81 (.iface 131 u) (.iface 130 v)).run Tryz.prog w = .ok (.bool false) w := by kernel_rfl
theorem eq_Bool_Symbol (u v : Value) (w : World) : (Go.binOp .eql 81 (.iface 131 u) (.iface 134 v)).run Tryz.prog w = .ok (.bool false) w := by kernel_rfl
theorem eq_Bool_Empty (u v : Value) (w : World) : (Go.binOp .eql 81 (.iface 131 u) (.iface 207 v)).run Tryz.prog w = .ok (.bool false) w := by kernel_rfl
theorem eq_Bool_Nothing (u v : Value) (w : World) : (Go.binOp .eql 81 (.iface 131 u) (.iface 259 v)).run Tryz.prog w = .ok (.bool false) w := by kernel_rfl
theorem eq_Symbol_Int (u v : Value) (w : World) : (Go.binOp .eql 81 (.iface 134 u) (.iface 130 v)).run Tryz.prog w = .ok (.bool false) w := by kernel_rfl
theorem eq_Symbol_Bool (u v : Value) (w : World) : (Go.binOp .eql 81 (.iface 134 u) (.iface 131 v)).run Tryz.prog w = .ok (.bool false) w := by kernel_rfl
theorem eq_Symbol_Empty (u v : Value) (w : World) : (Go.binOp .eql 81 (.iface 134 u) (.iface 207 v)).run Tryz.prog w = .ok (.bool false) w := by kernel_rfl
theorem eq_Symbol_Nothing (u v : Value) (w : World) : (Go.binOp .eql 81 (.iface 134 u) (.iface 259 v)).run Tryz.prog w = .ok (.bool false) w := by kernel_rfl
theorem eq_Empty_Int (u v : Value) (w : World) : (Go.binOp .eql 81 (.iface 207 u) (.iface 130 v)).run Tryz.prog w = .ok (.bool false) w := by kernel_rfl
theorem eq_Empty_Bool (u v : Value) (w : World) : (Go.binOp .eql 81 (.iface 207 u) (.iface 131 v)).run Tryz.prog w = .ok (.bool false) w := by kernel_rfl
theorem eq_Empty_Symbol (u v : Value) (w : World) : (Go.binOp .eql 81 (.iface 207 u) (.iface 134 v)).run Tryz.prog w = .ok (.bool false) w := by kernel_rfl
theorem eq_Empty_Nothing (u v : Value) (w : World) : (Go.binOp .eql 81 (.iface 207 u) (.iface 259 v)).run Tryz.prog w = .ok (.bool false) w := by kernel_rfl
theorem eq_Nothing_Int (u v : Value) (w : World) : (Go.binOp .eql 81 (.iface 259 u) (.iface 130 v)).run Tryz.prog w = .ok (.bool false) w := by kernel_rfl
theorem eq_Nothing_Bool (u v : Value) (w : World) : (Go.binOp .eql 81 (.iface 259 u) (.iface 131 v)).run Tryz.prog w = .ok (.bool false) w := by kernel_rfl
theorem eq_Nothing_Symbol (u v : Value) (w : World) : (Go.binOp .eql 81 (.iface 259 u) (.iface 134 v)).run Tryz.prog w = .ok (.bool false) w := by kernel_rfl
theorem eq_Nothing_Empty (u v : Value) (w : World) : (Go.binOp .eql 81 (.iface 259 u) (.iface 207 v)).run Tryz.prog w = .ok (.bool false) w := by kernel_rfl
theorem eq_Int_Pair (u v : Value) (w : World) : (Go.binOp .eql 81 (.iface 130 u) (.iface 136 v)).run Tryz.prog w = .ok (.bool false) w := by kernel_rfl
theorem eq_Int_Proc (u v : Value) (w : World) : (Go.binOp .eql 81 (.iface 130 u) (.iface 216 v)).run Tryz.prog w = .ok (.bool false) w := by kernel_rfl
theorem eq_Pair_Int (u v : Value) (w : World) : (Go.binOp .eql 81 (.iface 136 u) (.iface 130 v)).run Tryz.prog w = .ok (.bool false) w := by kernel_rfl
theorem eq_Proc_Int (u v : Value) (w : World) : (Go.binOp .eql 81 (.iface 216 u) (.iface 130 v)).run Tryz.prog w = .ok (.bool false) w := by kernel_rfl
theorem eq_Bool_Pair (u v : Value) (w : World) : (Go.binOp .eql 81 (.iface 131 u) (.iface 136 v)).run Tryz.prog w = .ok (.bool false) w := by kernel_rfl
theorem eq_Bool_Proc (u v : Value) (w : World) : (Go.binOp .eql 81 (.iface 131 u) (.iface 216 v)).run Tryz.prog w = .ok (.bool false) w := by kernel_rfl
theorem eq_Pair_Bool (u v : Value) (w : World) : (Go.binOp .eql 81 (.iface 136 u) (.iface 131 v)).run Tryz.prog w = .ok (.bool false) w := by kernel_rfl
theorem eq_Proc_Bool (u v : Value) (w : World) : (Go.binOp .eql 81 (.iface 216 u) (.iface 131 v)).run Tryz.prog w = .ok (.bool false) w := by kernel_rfl
theorem eq_Symbol_Pair (u v : Value) (w : World) : (Go.binOp .eql 81 (.iface 134 u) (.iface 136 v)).run Tryz.prog w = .ok (.bool false) w := by kernel_rfl
theorem eq_Symbol_Proc (u v : Value) (w : World) : (Go.binOp .eql 81 (.iface 134 u) (.iface 216 v)).run Tryz.prog w = .ok (.bool false) w := by kernel_rfl
theorem eq_Pair_Symbol (u v : Value) (w : World) : (Go.binOp .eql 81 (.iface 136 u) (.iface 134 v)).run Tryz.prog w = .ok (.bool false) w := by kernel_rfl
theorem eq_Proc_Symbol (u v : Value) (w : World) : (Go.binOp .eql 81 (.iface 216 u) (.iface 134 v)).run Tryz.prog w = .ok (.bool false) w := by kernel_rfl
theorem eq_Empty_Pair (u v : Value) (w : World) : (Go.binOp .eql 81 (.iface 207 u) (.iface 136 v)).run Tryz.prog w = .ok (.bool false) w := by kernel_rfl
theorem eq_Empty_Proc (u v : Value) (w : World) : (Go.binOp .eql 81 (.iface 207 u) (.iface 216 v)).run Tryz.prog w = .ok (.bool false) w := by kernel_rfl
theorem eq_Pair_Empty (u v : Value) (w : World) : (Go.binOp .eql 81 (.iface 136 u) (.iface 207 v)).run Tryz.prog w = .ok (.bool false) w := by kernel_rfl
theorem eq_Proc_Empty (u v : Value) (w : World) : (Go.binOp .eql 81 (.iface 216 u) (.iface 207 v)).run Tryz.prog w = .ok (.bool false) w := by kernel_rfl
theorem eq_Nothing_Pair (u v : Value) (w : World) : (Go.binOp .eql 81 (.iface 259 u) (.iface 136 v)).run Tryz.prog w = .ok (.bool false) w := by kernel_rfl
theorem eq_Nothing_Proc (u v : Value) (w : World) : (Go.binOp .eql 81 (.iface 259 u) (.iface 216 v)).run Tryz.prog w = .ok (.bool false) w := by kernel_rfl
theorem eq_Pair_Nothing (u v : Value) (w : World) : (Go.binOp .eql 81 (.iface 136 u) (.iface 259 v)).run Tryz.prog w = .ok (.bool false) w := by kernel_rfl
theorem eq_Proc_Nothing (u v : Value) (w : World) : (Go.binOp .eql 81 (.iface 216 u) (.iface 259 v)).run Tryz.prog w = .ok (.bool false) w := by kernel_rfl
theorem eq_Pair_Proc (u v : Value) (w : World) : (Go.binOp .eql 81 (.iface 136 u) (.iface 216 v)).run Tryz.prog w = .ok (.bool false) w := by kernel_rfl
theorem eq_Proc_Pair (u v : Value) (w : World) : (Go.binOp .eql 81 (.iface 216 u) (.iface 136 v)).run Tryz.prog w = .ok (.bool false) w := by kernel_rfl
theorem eq_Int_Int (a b : Int) (w : World) : (Go.binOp .eql 81 (.iface 130 (.int .i64 a)) (.iface 130 (.int .i64 b))).run Tryz.prog w = .ok (.bool (a == b)) w := by kernel_rfl
theorem eq_Bool_Bool (a b : Bool) (w : World) : (Go.binOp .eql 81 (.iface 131 (.bool a)) (.iface 131 (.bool b))).run Tryz.prog w = .ok (.bool (a == b)) w := by kernel_rfl
theorem eq_Sym_Sym (a b : ByteArray) (w : World) : (Go.binOp .eql 81 (.iface 134 (.string a)) (.iface 134 (.string b))).run Tryz.prog w = .ok (.bool (a == b)) w := by kernel_rfl
theorem eq_Empty_Empty (w : World) : (Go.binOp .eql 81 (.iface 207 (.agg #[])) (.iface 207 (.agg #[]))).run Tryz.prog w = .ok (.bool true) w := by kernel_rfl
theorem eq_Nothing_Nothing (w : World) : (Go.binOp .eql 81 (.iface 259 (.agg #[])) (.iface 259 (.agg #[]))).run Tryz.prog w = .ok (.bool true) w := by kernel_rfl
theorem eq_ptr {tp te : TypeId} (hp : Tryz.prog.underlying tp = some (.pointer te)) (hc : (Tryz.prog.info? tp).map (fun i => i.comparable) = some true) (hs : (Tryz.prog.info? te).map (fun i => decide (i.size = 0)) = some false) (g k : Nat) (w : World) {cg ck : Array Value} {tg tk : TypeId} (hg : w.heap[g]? = some (.cells cg tg (0, 0))) (hk : w.heap[k]? = some (.cells ck tk (0, 0))) :
    (Go.binOp .eql 81 (.iface tp (.pointer (some ⟨g, 0, none⟩))) (.iface tp (.pointer (some ⟨k, 0, none⟩)))).run Tryz.prog w = .ok (.bool (g == k)) w := by
  obtain ⟨i, hi, hi2⟩ := Option.map_eq_some_iff.1 hc
  obtain ⟨j, hj, hj2⟩ := Option.map_eq_some_iff.1 hs
  by_cases e : g = k
  · subst e
    rw [run_eql_iface_ptr_same w ⟨g, 0, none⟩ Tryz.underlying81 hp hi hi2 hj]; simp
  · rw [run_eql_iface_ptr_other w Tryz.underlying81 hp hi hi2 hj (by simpa using hj2) (by intro h; injection h with h1; exact e h1) hg hk]
    simp [e]
theorem comp_Pair : (Tryz.prog.info? 136).map (fun i => i.comparable) = some true := by kernel_rfl
theorem comp_Proc : (Tryz.prog.info? 216).map (fun i => i.comparable) = some true := by kernel_rfl
theorem size_Pair : (Tryz.prog.info? 205).map (fun i => decide (i.size = 0)) = some false := by kernel_rfl
theorem size_Proc : (Tryz.prog.info? 220).map (fun i => decide (i.size = 0)) = some false := by kernel_rfl

/-- What == says of values in memory. -/
theorem eql_V {w : World} {mo : Nat → Option Nat} (inj : ∀ i j g, mo i = some g → mo j = some g → i = j) (hl : ∀ k g, mo (2 * k) = some g → ∃ c T, w.heap[g]? = some (Obj.cells c T (0, 0)) ∧ MT.contains T = false) : ∀ (a b : V) (x y : Value), VX w mo a x → VX w mo b y → (Go.binOp .eql 81 x y).run Tryz.prog w = .ok (.bool (sameV a b)) w := by
  intro a b x y ha hb
  cases a with
  | int m =>
    obtain ⟨rfl, _⟩ := ha
    cases b with
    | int n => obtain ⟨rfl, _⟩ := hb; exact eq_Int_Int m n w
    | bool q => cases hb; exact eq_Int_Bool _ _ w
    | sym s => obtain ⟨rfl, _⟩ := hb; exact eq_Int_Symbol _ _ w
    | empty => cases hb; exact eq_Int_Empty _ _ w
    | nothing => cases hb; exact eq_Int_Nothing _ _ w
    | pair i p q => obtain ⟨g, u, v, _, rfl, _⟩ := hb; exact eq_Int_Pair _ _ w
    | proc i => obtain ⟨_, g, _, rfl⟩ := hb; exact eq_Int_Proc _ _ w
  | bool m =>
    cases ha
    cases b with
    | int n => obtain ⟨rfl, _⟩ := hb; exact eq_Bool_Int _ _ w
    | bool q => cases hb; exact eq_Bool_Bool m q w
    | sym s => obtain ⟨rfl, _⟩ := hb; exact eq_Bool_Symbol _ _ w
    | empty => cases hb; exact eq_Bool_Empty _ _ w
    | nothing => cases hb; exact eq_Bool_Nothing _ _ w
    | pair i p q => obtain ⟨g, u, v, _, rfl, _⟩ := hb; exact eq_Bool_Pair _ _ w
    | proc i => obtain ⟨_, g, _, rfl⟩ := hb; exact eq_Bool_Proc _ _ w
  | sym m =>
    obtain ⟨rfl, _⟩ := ha
    cases b with
    | int n => obtain ⟨rfl, _⟩ := hb; exact eq_Symbol_Int _ _ w
    | bool q => cases hb; exact eq_Symbol_Bool _ _ w
    | sym s =>
      obtain ⟨rfl, _⟩ := hb
      rw [eq_Sym_Sym]
      congr 2
      show (m.toArray == s.toArray) = (m == s)
      simp
    | empty => cases hb; exact eq_Symbol_Empty _ _ w
    | nothing => cases hb; exact eq_Symbol_Nothing _ _ w
    | pair i p q => obtain ⟨g, u, v, _, rfl, _⟩ := hb; exact eq_Symbol_Pair _ _ w
    | proc i => obtain ⟨_, g, _, rfl⟩ := hb; exact eq_Symbol_Proc _ _ w
  | empty =>
    cases ha
    cases b with
    | int n => obtain ⟨rfl, _⟩ := hb; exact eq_Empty_Int _ _ w
    | bool q => cases hb; exact eq_Empty_Bool _ _ w
    | sym s => obtain ⟨rfl, _⟩ := hb; exact eq_Empty_Symbol _ _ w
    | empty => cases hb; first | exact eq_Empty_Empty _ _ w | exact eq_Empty_Empty w
    | nothing => cases hb; first | exact eq_Empty_Nothing _ _ w | exact eq_Nothing_Nothing w
    | pair i p q => obtain ⟨g, u, v, _, rfl, _⟩ := hb; exact eq_Empty_Pair _ _ w
    | proc i => obtain ⟨_, g, _, rfl⟩ := hb; exact eq_Empty_Proc _ _ w
  | nothing =>
    cases ha
    cases b with
    | int n => obtain ⟨rfl, _⟩ := hb; exact eq_Nothing_Int _ _ w
    | bool q => cases hb; exact eq_Nothing_Bool _ _ w
    | sym s => obtain ⟨rfl, _⟩ := hb; exact eq_Nothing_Symbol _ _ w
    | empty => cases hb; first | exact eq_Nothing_Empty _ _ w | exact eq_Empty_Empty w
    | nothing => cases hb; first | exact eq_Nothing_Nothing _ _ w | exact eq_Nothing_Nothing w
    | pair i p q => obtain ⟨g, u, v, _, rfl, _⟩ := hb; exact eq_Nothing_Pair _ _ w
    | proc i => obtain ⟨_, g, _, rfl⟩ := hb; exact eq_Nothing_Proc _ _ w
  | pair i p q =>
    obtain ⟨g, u, v, hg, rfl, hgc, _⟩ := ha
    cases b with
    | int n => obtain ⟨rfl, _⟩ := hb; exact eq_Pair_Int _ _ w
    | bool q => cases hb; exact eq_Pair_Bool _ _ w
    | sym s => obtain ⟨rfl, _⟩ := hb; exact eq_Pair_Symbol _ _ w
    | empty => cases hb; exact eq_Pair_Empty _ _ w
    | nothing => cases hb; exact eq_Pair_Nothing _ _ w
    | pair j p' q' =>
      obtain ⟨k, u', v', hk, rfl, hkc, _⟩ := hb
      rw [eq_ptr Tryz.underlying136 comp_Pair size_Pair g k w hgc hkc]
      congr 2
      show (g == k) = (i == j)
      rw [Bool.eq_iff_iff, beq_iff_eq, beq_iff_eq]
      exact ⟨fun e => by subst e; exact inj _ _ _ hg hk, fun e => by subst e; rw [hg] at hk; cases hk; rfl⟩
    | proc i => obtain ⟨_, g, _, rfl⟩ := hb; exact eq_Pair_Proc _ _ w
  | proc i =>
    obtain ⟨h2, g, hg, rfl⟩ := ha
    cases b with
    | int n => obtain ⟨rfl, _⟩ := hb; exact eq_Proc_Int _ _ w
    | bool q => cases hb; exact eq_Proc_Bool _ _ w
    | sym s => obtain ⟨rfl, _⟩ := hb; exact eq_Proc_Symbol _ _ w
    | empty => cases hb; exact eq_Proc_Empty _ _ w
    | nothing => cases hb; exact eq_Proc_Nothing _ _ w
    | pair j p' q' => obtain ⟨k, u', v', hk, rfl, hkc, _⟩ := hb; exact eq_Proc_Pair _ _ w
    | proc j =>
      obtain ⟨h3, k, hk, rfl⟩ := hb
      obtain ⟨cg, tg, hgc, _⟩ := hl (i / 2) g (by rw [show 2 * (i / 2) = i by omega]; exact hg)
      obtain ⟨ck, tk, hkc, _⟩ := hl (j / 2) k (by rw [show 2 * (j / 2) = j by omega]; exact hk)
      rw [eq_ptr Tryz.underlying216 comp_Proc size_Proc g k w hgc hkc]
      congr 2
      show (g == k) = (i == j)
      rw [Bool.eq_iff_iff, beq_iff_eq, beq_iff_eq]
      exact ⟨fun e => by subst e; exact inj _ _ _ hg hk, fun e => by subst e; rw [hg] at hk; cases hk; rfl⟩
end Go.Proofs.YtlobegpjenabaaaGreatDoor

/- One step of the machine in memory, III: branch, load, set, define. -/
namespace Go.Proofs.YtlobegpjenabaaaGreatDoor
open Go.RowKit
set_option linter.unusedSimpArgs false
set_option linter.unusedVariables false

theorem ne_types {w : World} {k k' : Nat} {c c' : Array Value} {T T' : TypeId} (h : w.heap[k]? = some (Obj.cells c T (0, 0))) (h' : w.heap[k']? = some (Obj.cells c' T' (0, 0))) (hT : T ≠ T') : k ≠ k' := fun e => by
  subst e
  have := Option.some.inj (h.symm.trans h')
  injection this with _ h2
  exact hT h2
/-- Is it #f? (Whatever the world.) -/
theorem eql_false {w : World} {mo : Nat → Option Nat} {a : V} {t : TypeId} {x : Value} (ha : VX w mo a (.iface t x)) (W : World) : (Go.binOp .eql 81 (.iface t x) (.iface 131 (.bool false))).run Tryz.prog W = .ok (.bool (sameV a (.bool false))) W := by
  cases a with
  | int n => obtain ⟨e, _⟩ := ha; cases e; exact eq_Int_Bool _ _ W
  | bool q => cases ha; exact eq_Bool_Bool q false W
  | sym s => obtain ⟨e, _⟩ := ha; cases e; exact eq_Symbol_Bool _ _ W
  | empty => cases ha; exact eq_Empty_Bool _ _ W
  | nothing => cases ha; exact eq_Nothing_Bool _ _ W
  | pair i p q => obtain ⟨g, u, v, _, e, _⟩ := ha; cases e; exact eq_Pair_Bool _ _ W
  | proc i => obtain ⟨_, g, _, e⟩ := ha; cases e; exact eq_Proc_Bool _ _ W
/-- Is it the empty list? -/
theorem eql_empty {w : World} {mo : Nat → Option Nat} {a : V} {t : TypeId} {x : Value} (ha : VX w mo a (.iface t x)) (W : World) : (Go.binOp .eql 81 (.iface t x) (.iface 207 (.agg #[]))).run Tryz.prog W = .ok (.bool (sameV a .empty)) W := by
  cases a with
  | int n => obtain ⟨e, _⟩ := ha; cases e; exact eq_Int_Empty _ _ W
  | bool q => cases ha; exact eq_Bool_Empty _ _ W
  | sym s => obtain ⟨e, _⟩ := ha; cases e; exact eq_Symbol_Empty _ _ W
  | empty => cases ha; exact eq_Empty_Empty W
  | nothing => cases ha; exact eq_Nothing_Empty _ _ W
  | pair i p q => obtain ⟨g, u, v, _, e, _⟩ := ha; cases e; exact eq_Pair_Empty _ _ W
  | proc i => obtain ⟨_, g, _, e⟩ := ha; cases e; exact eq_Proc_Empty _ _ W

theorem branch_step {B K : Nat} {w : World} {X : Nat → Prop} {ow mo mf : Nat → Option Nat} {M b : Nat} {C : Cd} {s : MS} {val app args out : Value} {top : Option Addr} {gf : Nat} (h : RS B K w X ow mo mf M b C s val app args out top gf) (hM : w.heap[M]? = some (Obj.cells (mcC b s.pc val (ptrV gf) app args (.pointer top) out 0 0 0 ⟨#[]⟩) 119 (0, 0))) (n : Int) (hn : opS C s 8 n ≠ .bad) : Calls Tryz.prog 124 #[.pointer (some ⟨M, 0, none⟩), .int .i64 n] w (StepPost B K X ow w M b C (opS C s 8 n)) := by
  obtain ⟨k0, k1, k2, k3, k4, k5, k6, k7, k8, k9, k10, k11⟩ := mc_cell hM
  have hst := h.st
  have hv := h.val
  simp only [opS] at hn ⊢
  cases hs : s.st with
  | nil => rw [hs] at hn; exact absurd rfl hn
  | cons en r =>
    rw [hs] at hst hn
    cases hsv : s.val with
    | none => rw [hsv] at hn; exact absurd rfl hn
    | some v =>
      rw [hsv] at hv
      have hv : VX w mo v val := hv
      obtain ⟨t, x, rfl⟩ := hv.form
      obtain ⟨g, q, gf0, got, rfl, hg, _, _, _, _, hr⟩ := hst
      have c0 := cell_of_block hg 0
      refine (branch_raw w M g n s.pc q t x (sameV v (.bool false)) (ne_types hg hM (by decide)) k6 (frozen_of_block hM 6) c0 k2 k1 (frozen_of_block hM 1) (eql_false hv)).mono ?_
      rintro e w' ⟨rfl, rfl⟩
      cases hb : sameV v (.bool false) with
      | false =>
        simp only [hb, Bool.false_eq_true, if_false]
        refine ⟨rfl, h.go hM (setM w M 6 _) _ (.iface t x) app args q gf ((heap_setCell_same hM).trans rfl) rfl rfl rfl fun h' => ⟨by have := h'.val; rw [hsv] at this; exact this, h'.fr, h'.app, hr.keepM hM (setM w M 6 _)⟩⟩
      | true =>
        simp only [hb, if_true]
        have hu : Upd (fun k => k = M) w ((w.setCell ⟨M, 6, none⟩ (.pointer q)).setCell ⟨M, 1, none⟩ (.int .i64 n)) := (setM w M 6 _).setCell _ _ (fun _ => rfl)
        refine ⟨rfl, h.go hM hu _ (.iface t x) app args q gf ((heap_setCell_same (heap_setCell_same hM)).trans rfl) rfl rfl rfl fun h' => ⟨by have := h'.val; rw [hsv] at this; exact this, h'.fr, h'.app, hr.keepM hM hu⟩⟩
theorem load_step {B K : Nat} {w : World} {X : Nat → Prop} {ow mo mf : Nat → Option Nat} {M b : Nat} {C : Cd} {s : MS} {val app args out : Value} {top : Option Addr} {gf : Nat} (h : RS B K w X ow mo mf M b C s val app args out top gf) (hM : w.heap[M]? = some (Obj.cells (mcC b s.pc val (ptrV gf) app args (.pointer top) out 0 0 0 ⟨#[]⟩) 119 (0, 0))) (n : Int) (hn : opS C s 2 n ≠ .bad) : Calls Tryz.prog 118 #[.pointer (some ⟨M, 0, none⟩), .int .i64 n] w (StepPost B K X ow w M b C (opS C s 2 n)) := by
  obtain ⟨k0, k1, k2, k3, k4, k5, k6, k7, k8, k9, k10, k11⟩ := mc_cell hM
  have hfl : s.fr < s.frs.length := h.fdm _ _ h.fr
  have HF := find_go h s.fr gf hfl h.fr n
  simp only [opS] at hn ⊢
  cases hfs : findS s.frs (s.fr + 1) s.fr n with
  | none =>
    rw [hfs] at hn HF
    refine (load_none w M gf n k3 (hide (HF.mono fun e w' hp => ⟨hp.2, hp.1⟩))).mono ?_
    rintro e w' ⟨rfl, hw⟩
    exact err_step h hM 5 _ 0 (by omega) rfl w' hw hn
  | some fj =>
    obtain ⟨f, j⟩ := fj
    rw [hfs] at hn HF
    simp only [] at hn ⊢
    cases hfr : s.frs[f]? with
    | none => rw [hfr] at hn; exact absurd rfl hn
    | some fr =>
      rw [hfr] at hn
      simp only [] at hn ⊢
      cases hvj : fr.vs[j]? with
      | none => rw [hvj] at hn; exact absurd rfl hn
      | some v =>
        refine (load_some w M gf n _ (fun gv o => ∃ y, w.cell? ⟨gv, o, none⟩ = some y ∧ VX w mo v y) k3 k2 (frozen_of_block hM 2) (hide ?_) (hide (HF.mono ?_))).mono ?_
        · rintro gv o ⟨y, hy, hv⟩
          obtain ⟨t, x, rfl⟩ := hv.form
          exact ⟨t, x, hy⟩
        · rintro e w' ⟨hw, fr', g', pn, nv, gv, off, cap, op, xs, h1, h2, h3, h4, h5⟩
          rw [hfr] at h1
          cases h1
          obtain ⟨y, hy, hv⟩ := VXs.get j v h3.vs hvj
          obtain ⟨a, cap', hx, _, _, _, hc⟩ := h3.vr.at
          obtain ⟨gg, oo, c, ha, _, _, hcell⟩ := hc j h4
          cases hx
          cases ha
          rw [List.getElem?_eq_getElem h4] at hy
          cases hy
          exact ⟨hw, gv, off + j, ⟨_, hcell, hv⟩, h5⟩
        · rintro e w' ⟨gv, o, t, x, ⟨y, hy, hv⟩, hc, rfl, rfl⟩
          rw [hc] at hy
          cases hy
          exact ⟨rfl, h.go hM (setM w M 2 _) _ (.iface t x) app args top gf ((heap_setCell_same hM).trans rfl) rfl rfl rfl fun h' => ⟨hv.keepM hM (setM w M 2 _), h'.fr, h'.app, h'.st⟩⟩
theorem set_step {B K : Nat} {w : World} {X : Nat → Prop} {ow mo mf : Nat → Option Nat} {M b : Nat} {C : Cd} {s : MS} {val app args out : Value} {top : Option Addr} {gf : Nat} (h : RS B K w X ow mo mf M b C s val app args out top gf) (hM : w.heap[M]? = some (Obj.cells (mcC b s.pc val (ptrV gf) app args (.pointer top) out 0 0 0 ⟨#[]⟩) 119 (0, 0))) (n : Int) (hn : opS C s 10 n ≠ .bad) : Calls Tryz.prog 126 #[.pointer (some ⟨M, 0, none⟩), .int .i64 n] w (StepPost B K X ow w M b C (opS C s 10 n)) := by
  obtain ⟨k0, k1, k2, k3, k4, k5, k6, k7, k8, k9, k10, k11⟩ := mc_cell hM
  have hst := h.st
  have hv := h.val
  simp only [opS] at hn ⊢
  cases hs : s.st with
  | nil => rw [hs] at hn; exact absurd rfl hn
  | cons en r =>
    rw [hs] at hst hn
    cases hsv : s.val with
    | none => rw [hsv] at hn; exact absurd rfl hn
    | some v =>
      rw [hsv] at hv hn
      have hv : VX w mo v val := hv
      obtain ⟨t, x, rfl⟩ := hv.form
      obtain ⟨g, q, gf0, got, rfl, hg, _, _, _, _, hr⟩ := hst
      have c0 := cell_of_block hg 0
      have hu1 := setM w M 6 (.pointer q)
      have hM1 : (w.setCell ⟨M, 6, none⟩ (.pointer q)).heap[M]? = some (Obj.cells (mcC b s.pc (.iface t x) (ptrV gf) app args (.pointer q) out 0 0 0 ⟨#[]⟩) 119 (0, 0)) := (heap_setCell_same hM).trans rfl
      have h1 := (h.ext hM hu1 hM1).regs { s with st := r } (.iface t x) app args q gf rfl rfl rfl (by have := OV.keep (Go.Proofs.YtlobegpjenabaaaGreatDoor.keepM hM hu1 (by decide)) (Le.refl _) _ _ h.val; exact this) h.fr (h.ext hM hu1 hM1).app (hr.keepM hM hu1)
      have hfl : s.fr < s.frs.length := h.fdm _ _ h.fr
      have HF := find_go h1 s.fr gf hfl h.fr n
      simp only [] at hn HF ⊢
      have hgw1 := h.gw hu1
      cases hfs : findS s.frs (s.fr + 1) s.fr n with
      | none =>
        rw [hfs] at hn HF
        refine (set_none w M g gf n q k6 (frozen_of_block hM 6) c0 k3 (hide (HF.mono fun e w' hp => ⟨hp.2, hp.1⟩))).mono ?_
        rintro e w' ⟨rfl, rfl⟩
        have hn' : errS { s with st := r } 5 ≠ .bad := by rw [hsv]; exact hn
        unfold errS at hn ⊢
        cases r with
        | nil => exact absurd rfl hn
        | cons e' r' => exact ⟨wrongV 5, 0, rfl, by omega, rfl, X, ow, { s with st := e' :: r' }, MR.self h1 hM1, hgw1, rfl, rfl⟩
      | some fj =>
        obtain ⟨f, j⟩ := fj
        rw [hfs] at hn HF
        simp only [] at hn HF ⊢
        cases hfr : s.frs[f]? with
        | none => rw [hfr] at hn; exact absurd rfl hn
        | some fr =>
          refine (set_some w M g gf n q t x (fun gv o => ∃ g' pn nv off cap op xs, mf f = some g' ∧ FrR (w.setCell ⟨M, 6, none⟩ (.pointer q)) X ow mo mf f fr g' pn nv (.slice (some ⟨gv, off, none⟩) xs.length cap) op xs ∧ j < xs.length ∧ o = off + j) k6 (frozen_of_block hM 6) c0 k3 k2 (frozen_of_block hM 2) (hide ?_) (hide (HF.mono ?_))).mono ?_
          · rintro gv o ⟨g', pn, nv, off, cap, op, xs, hg', hF, hj, rfl⟩
            obtain ⟨a, cap', hx, _, _, _, hc⟩ := hF.vr.at
            obtain ⟨gg, oo, c, ha, _, hbl, hcell⟩ := hc j hj
            cases hx
            cases ha
            have hne : gv ≠ M := ne_types hbl hM1 (by decide)
            have hbl0 : w.heap[gv]? = some (Obj.cells c 81 (0, 0)) := by rw [← heap_set_ne w M 6 gv _ hne]; exact hbl
            refine ⟨hne, ⟨xs[j], ?_⟩, frozen_of_block hbl0 _⟩
            rw [cell_of_block hbl0, ← cell_of_block hbl]; exact hcell
          · rintro e w' ⟨hw, fr', g', pn, nv, gv, off, cap, op, xs, h1', h2, h3, h4, h5⟩
            have h1' : s.frs[f]? = some fr' := h1'
            rw [hfr] at h1'
            cases h1'
            exact ⟨hw, gv, off + j, ⟨g', pn, nv, off, cap, op, xs, h2, h3, h4, rfl⟩, h5⟩
          · rintro e w' ⟨gv, o, ⟨g', pn, nv, off, cap, op, xs, hg', hF, hj, rfl⟩, rfl, rfl⟩
            obtain ⟨a, cap', hx, _, _, _, hc⟩ := hF.vr.at
            obtain ⟨gg, oo, c, ha, howg, hbl, hcell⟩ := hc j hj
            cases hx
            cases ha
            have howg : ow gv = some (f + 1) := howg.elim id id
            have hne : gv ≠ M := ne_types hbl hM1 (by decide)
            have hfl2 : f < s.frs.length := (List.getElem?_eq_some_iff.1 hfr).1
            have kp : ∀ T, T ≠ 81 → Keep T (w.setCell ⟨M, 6, none⟩ (.pointer q)) ((w.setCell ⟨M, 6, none⟩ (.pointer q)).setCell ⟨gv, off + j, none⟩ (.iface t x)) := fun T hT => keep_set hbl hT
            have hu2 : Upd (fun k => ow k = some (f + 1)) (w.setCell ⟨M, 6, none⟩ (.pointer q)) ((w.setCell ⟨M, 6, none⟩ (.pointer q)).setCell ⟨gv, off + j, none⟩ (.iface t x)) := (Upd.refl _ _).setCell _ _ (fun _ => howg)
            have hv1 : VX (w.setCell ⟨M, 6, none⟩ (.pointer q)) mo v (.iface t x) := hv.keepM hM hu1
            have h2 := h1.setf f (fr.put j v) hfl2 hu2 (X' := X) (ow' := ow) (fun _ _ h => h) (fun _ _ _ => rfl) h1.owx (fun k hk _ => by
                obtain ⟨_, c', T, hkc, hT⟩ := h1.xty k hk
                by_cases e : k = gv
                · subst e; rw [hbl] at hkc; cases hkc; exact ⟨_, _, heap_setCell_same hbl, by decide⟩
                · exact ⟨c', T, by rw [heap_set_ne _ _ _ _ _ e]; exact hkc, hT⟩)
              ⟨g', pn, nv, .slice (some ⟨gv, off, none⟩) xs.length cap, op, xs.set j (.iface t x), hg', ⟨hF.tag, kp _ (by decide) _ _ hF.hS, hF.nr.keep (kp _ (by decide)), hF.vr.put j _ hj, VXs.set j v _ (VXs.keep (kp _ (by decide)) (Le.refl _) _ _ hF.vs) (VX.keep (kp _ (by decide)) (Le.refl _) _ _ hv1), hF.out, by simp [Fr.put, hF.len], hF.le⟩⟩
            have hM2 := heap_set_other (a := ⟨gv, off + j, none⟩) (v := .iface t x) hM1 (fun e => hne e.symm)
            have hgw2 : Gw X ow (w.setCell ⟨M, 6, none⟩ (.pointer q)) X ow ((w.setCell ⟨M, 6, none⟩ (.pointer q)).setCell ⟨gv, off + j, none⟩ (.iface t x)) := ⟨hu2.mono (fun k e => by rw [e]; simp), fun _ _ h _ => h, fun _ _ h => h, fun _ _ h => h⟩
            obtain ⟨X', ow', hMR, hG⟩ := h2.go hM2 (setM _ M 2 (.iface 259 (.agg #[]))) { s with st := r, val := some .nothing, frs := s.frs.set f (fr.put j v) } (.iface 259 (.agg #[])) app args q gf ((heap_setCell_same hM2).trans rfl) rfl rfl rfl (fun h' => ⟨rfl, h'.fr, h'.app, h'.st⟩)
            exact ⟨rfl, X', ow', hMR, (hgw1.trans hgw2).trans hG⟩
theorem RS.drew {B K : Nat} {w : World} {X : Nat → Prop} {ow mo mf : Nat → Option Nat} {M b : Nat} {C : Cd} {s : MS} {val app args out : Value} {top : Option Addr} {gf : Nat} (h : RS B K w X ow mo mf M b C s val app args out top gf) : RS B K w.drew X ow mo mf M b C s val app args out top gf := by
  have hk : ∀ T, Keep T w w.drew := fun T _ _ hx => hx
  obtain ⟨c, u0, u1, u2, u3, x1, x3, hc⟩ := h.code
  exact ⟨⟨c, u0, u1, u2, u3, x1, x3, hc.keep (fun _ _ => hk _) (Nat.le_refl _) (fun b hb hn => ⟨hn, rfl⟩)⟩, OV.keep (hk _) (Le.refl _) _ _ h.val, h.fr, h.app.keep (hk _) (Le.refl _) (fun b c hb hc => ⟨hb, hc⟩), h.st.keep (hk _) (hk _) (hk _) (Le.refl _) (Le.refl _), h.out.keep (fun b c hb hc => ⟨hb, hc⟩), fun i fr hi => (by obtain ⟨g, pn, nv, vv, op, xs, h1, h2⟩ := h.frs i fr hi; exact ⟨g, pn, nv, vv, op, xs, h1, h2.keep (hk _) (Le.refl _) (Le.refl _) (fun b hb hw => ⟨hw, rfl⟩) (fun b hb hn => ⟨hn, rfl⟩)⟩), fun j p hp => (h.obs j p hp).keep (fun _ _ => hk _) (Le.refl _) (Le.refl _) (fun b hb hn => ⟨hn, rfl⟩), h.mlt, h.mdm, h.mcl, h.inj, h.mcd, h.fdm, h.owx, h.xty, h.owM, h.tab.below ((Below.refl _ _).drew), h.hB⟩
end Go.Proofs.YtlobegpjenabaaaGreatDoor

/- One step of the machine in memory, IV: define. -/
namespace Go.Proofs.YtlobegpjenabaaaGreatDoor
open Go.RowKit
set_option linter.unusedSimpArgs false
set_option linter.unusedVariables false

theorem Rw.split {w : World} {T : TypeId} {own sh : Nat → Prop} {u : Value} {xs : List Value} (h : Rw w T own sh u xs) : ∃ kn : Option Nat, (∀ k, kn = some k → own k ∧ ∃ c, w.heap[k]? = some (Obj.cells c T (0, 0))) ∧ Rw w T (fun k => kn = some k) (fun k => sh k ∧ kn = none) u xs := by
  rcases h with h | ⟨g, off, cap, cu, h1, h2, h2', h3, h4, h5⟩
  · exact ⟨none, (fun k hk => by cases hk), .inl h⟩
  · rcases h5 with ⟨a, b, c⟩ | ⟨a, b⟩
    · exact ⟨some g, (fun k hk => by cases hk; exact ⟨a, cu, h3⟩), .inr ⟨g, off, cap, cu, h1, h2, h2', h3, h4, .inl ⟨rfl, b, c⟩⟩⟩
    · exact ⟨none, (fun k hk => by cases hk), .inr ⟨g, off, cap, cu, h1, h2, h2', h3, h4, .inr ⟨⟨a, rfl⟩, b⟩⟩⟩
theorem Rw.split2 {w : World} {T : TypeId} {own : Nat → Prop} {u : Value} {xs : List Value} (h : Rw w T own own u xs) : ∃ kn : Option Nat, (∀ k, kn = some k → own k ∧ ∃ c, w.heap[k]? = some (Obj.cells c T (0, 0))) ∧ Rw w T (fun k => kn = some k) (fun k => kn = some k) u xs := by
  rcases h with h | ⟨g, off, cap, cu, h1, h2, h2', h3, h4, h5⟩
  · exact ⟨none, (fun k hk => by cases hk), .inl h⟩
  · rcases h5 with ⟨a, b, c⟩ | ⟨a, b⟩
    · exact ⟨some g, (fun k hk => by cases hk; exact ⟨a, cu, h3⟩), .inr ⟨g, off, cap, cu, h1, h2, h2', h3, h4, .inl ⟨rfl, b, c⟩⟩⟩
    · exact ⟨some g, (fun k hk => by cases hk; exact ⟨a, cu, h3⟩), .inr ⟨g, off, cap, cu, h1, h2, h2', h3, h4, .inr ⟨rfl, b⟩⟩⟩
/-- The blocks that a frame goes on with. -/
def KeepF (g : Nat) (kn kv : Option Nat) (k : Nat) : Prop := k = g ∨ kn = some k ∨ kv = some k
/-- A frame's rows are others now. -/
theorem RS.reframe {B K : Nat} {w : World} {X : Nat → Prop} {ow mo mf : Nat → Option Nat} {M b : Nat} {C : Cd} {s : MS} {val app args out : Value} {top : Option Addr} {gf : Nat} (h : RS B K w X ow mo mf M b C s val app args out top gf) {w' : World} (i g : Nat) (fr' : Fr) (pn : ByteArray) (nv vv : Value) (op : Option Addr) (xs' : List Value) (hi : i < s.frs.length) (hg : mf i = some g) (hu : Upd (fun k => ow k = some (i + 1)) w w') (htag : ow g = some (i + 1))
    (hS : w'.heap[g]? = some (Obj.cells #[.string pn, nv, vv, .pointer op] 176 (0, 0))) (hn : Rw w' 3 (fun k => ow k = some (i + 1) ∨ w.heap.size ≤ k) (fun k => ¬ X k) nv (fr'.ns.map (Value.int .i64))) (hv : Rw w' 81 (fun k => ow k = some (i + 1) ∨ w.heap.size ≤ k) (fun k => ow k = some (i + 1) ∨ w.heap.size ≤ k) vv xs') (hvs : VXs w' mo fr'.vs xs')
    (hout : match fr'.out with
      | none => op = none
      | some j => j < i ∧ ∃ gj, mf j = some gj ∧ op = some ⟨gj, 0, none⟩) (hlen : fr'.ns.length = fr'.vs.length) (hle : fr'.ns.length ≤ 1000000) :
    ∃ X' ow', RS B K w' X' ow' mo mf M b C { s with frs := s.frs.set i fr' } val app args out top gf ∧ Gw X ow w X' ow' w' := by
  classical
  obtain ⟨kn, hkn, hn⟩ := hn.split
  obtain ⟨kv, hkv, hv⟩ := hv.split2
  have hxl : ∀ k, X k → k < w.heap.size := fun k hk => by obtain ⟨_, c, T, h1, _⟩ := h.xty k hk; exact lt_of_some h1
  have hgX : X g := h.owx _ _ htag
  have hKX : ∀ k, KeepF g kn kv k → k < w.heap.size → X k ∧ ow k = some (i + 1) := fun k hx hk => by
    rcases hx with hx | hx | hx
    · subst hx; exact ⟨hgX, htag⟩
    · rcases (hkn k hx).1 with e | e
      · exact ⟨h.owx _ _ e, e⟩
      · omega
    · rcases (hkv k hx).1 with e | e
      · exact ⟨h.owx _ _ e, e⟩
      · omega
  have hKT : ∀ k, KeepF g kn kv k → ∃ c T, w'.heap[k]? = some (Obj.cells c T (0, 0)) ∧ MT.contains T = true := fun k hx => by
    rcases hx with hx | hx | hx
    · subst hx; exact ⟨_, _, hS, by decide⟩
    · obtain ⟨c, hc⟩ := (hkn k hx).2; exact ⟨_, _, hc, by decide⟩
    · obtain ⟨c, hc⟩ := (hkv k hx).2; exact ⟨_, _, hc, by decide⟩
  refine ⟨fun k => (X k ∧ ow k ≠ some (i + 1)) ∨ KeepF g kn kv k, fun k => if KeepF g kn kv k then some (i + 1) else if ow k = some (i + 1) then none else ow k, ?_, ?_⟩
  · refine h.setf i fr' hi hu (fun k hk hx => ?_) (fun k hk ho => ?_) (fun k t ht => ?_) (fun k hx hk => ?_) ⟨g, pn, nv, vv, op, xs', hg, ?_⟩
    · rcases hx with hx | hx
      · exact hx.1
      · exact (hKX k hx hk).1
    · have : ¬ KeepF g kn kv k := fun hx => ho (hKX k hx hk).2
      simp only [this, if_false, ho]
    · have ht : (if KeepF g kn kv k then some (i + 1) else if ow k = some (i + 1) then none else ow k) = some t := ht
      by_cases hkf : KeepF g kn kv k
      · exact .inr hkf
      · rw [if_neg hkf] at ht
        by_cases ho : ow k = some (i + 1)
        · rw [if_pos ho] at ht; cases ht
        · rw [if_neg ho] at ht; exact .inl ⟨h.owx _ _ ht, ho⟩
    · rcases hx with ⟨hx, ho⟩ | hx
      · rcases hk with hk | hk
        · exact absurd hk ho
        · exact absurd (hxl k hx) (by omega)
      · exact hKT k hx
    · refine ⟨?_, hS, hn.imp (fun k c hk hc => ⟨?_, hc⟩) (fun k c hk hc => ⟨?_, hc⟩), hv.imp (fun k c hk hc => ⟨?_, hc⟩) (fun k c hk hc => ⟨?_, hc⟩), hvs, hout, hlen, hle⟩
      · show (if KeepF g kn kv g then some (i + 1) else _) = _
        rw [if_pos (.inl rfl)]
      · show (if KeepF g kn kv k then some (i + 1) else _) = _
        rw [if_pos (.inr (.inl hk))]
      · rintro (hx | hx | hx | hx)
        · exact hk.1 hx.1
        · subst hx; exact hk.1 hgX
        · rw [hk.2] at hx; cases hx
        · obtain ⟨c', hc'⟩ := (hkv k hx).2
          exact ne_types hc hc' (by decide) rfl
      · show (if KeepF g kn kv k then some (i + 1) else _) = _
        rw [if_pos (.inr (.inr hk))]
      · show (if KeepF g kn kv k then some (i + 1) else _) = _
        rw [if_pos (.inr (.inr hk))]
  · refine ⟨hu.mono (fun k e => by rw [e]; simp), fun k hk hx ho => .inl ⟨hx, by rw [ho]; simp⟩, fun k hk hx => ?_, fun k hk ho => ?_⟩
    · rcases hx with hx | hx
      · exact hx.1
      · exact (hKX k hx hk).1
    · have : ¬ KeepF g kn kv k := fun hx => by have := (hKX k hx hk).2; rw [ho] at this; cases this
      show (if KeepF g kn kv k then some (i + 1) else if ow k = some (i + 1) then none else ow k) = none
      rw [if_neg this, ho]; simp
/-- The rows that define leaves. -/
theorem DefPost'.rows {w w' : World} {X : Nat → Prop} {ow : Nat → Option Nat} {i g : Nat} {fr : Fr} {pn : ByteArray} {op : Option Addr} {xs : List Value} {n : Int} {x : Value} {e : Ending} (h : DefPost' w X ow i g fr pn op xs n x e w') (v : V) :
    ∃ nv vv, w'.heap[g]? = some (Obj.cells #[.string pn, nv, vv, .pointer op] 176 (0, 0)) ∧ Rw w' 3 (fun k => ow k = some (i + 1) ∨ w.heap.size ≤ k) (fun k => ¬ X k) nv ((fr.define n v).ns.map (Value.int .i64)) ∧ Rw w' 81 (fun k => ow k = some (i + 1) ∨ w.heap.size ≤ k) (fun k => ow k = some (i + 1) ∨ w.heap.size ≤ k) vv (match idxI fr.ns n with
      | some j => xs.set j x
      | none => xs ++ [x]) := by
  obtain ⟨_, hu, nv, vv, xs', hS, hm⟩ := h
  refine ⟨nv, vv, hS, ?_⟩
  unfold Fr.define
  cases hix : idxI fr.ns n with
  | some j =>
    rw [hix] at hm
    obtain ⟨rfl, h1, h2⟩ := hm
    exact ⟨h1.imp (fun k c hk hc => ⟨.inl hk, hc⟩) (fun k c hk hc => ⟨hk, hc⟩), h2.imp (fun k c hk hc => ⟨.inl hk, hc⟩) (fun k c hk hc => ⟨.inl hk, hc⟩)⟩
  | none =>
    rw [hix] at hm
    obtain ⟨rfl, gn, gv, h1, h2, h3, h4, h5, h6⟩ := hm
    exact ⟨Rw.of_own h5 (fun k hk => by rw [h3] at hk; cases hk; exact h1), Rw.of_own h6 (fun k hk => by rw [h4] at hk; cases hk; exact h2)⟩
theorem idxI_none_len (fr : Fr) (n : Int) (v : V) (h : fr.ns.length = fr.vs.length) : (fr.define n v).ns.length = (fr.define n v).vs.length ∧ (fr.define n v).ns.length ≤ fr.ns.length + 1 ∧ (fr.define n v).out = fr.out := by
  unfold Fr.define
  cases idxI fr.ns n with
  | some j => simp [Fr.put, h]
  | none => simp [h]
theorem define_step {B K : Nat} {w : World} {X : Nat → Prop} {ow mo mf : Nat → Option Nat} {M b : Nat} {C : Cd} {s : MS} {val app args out : Value} {top : Option Addr} {gf : Nat} (h : RS B K w X ow mo mf M b C s val app args out top gf) (hM : w.heap[M]? = some (Obj.cells (mcC b s.pc val (ptrV gf) app args (.pointer top) out 0 0 0 ⟨#[]⟩) 119 (0, 0))) (n : Int) (hn : opS C s 9 n ≠ .bad) : Calls Tryz.prog 125 #[.pointer (some ⟨M, 0, none⟩), .int .i64 n] w (StepPost B K X ow w M b C (opS C s 9 n)) := by
  obtain ⟨k0, k1, k2, k3, k4, k5, k6, k7, k8, k9, k10, k11⟩ := mc_cell hM
  have hst := h.st
  have hv := h.val
  simp only [opS] at hn ⊢
  cases hs : s.st with
  | nil => rw [hs] at hn; exact absurd rfl hn
  | cons en r =>
    rw [hs] at hst hn
    cases hsv : s.val with
    | none => rw [hsv] at hn; exact absurd rfl hn
    | some v =>
      rw [hsv] at hv hn
      simp only [] at hn ⊢
      have hv : VX w mo v val := hv
      obtain ⟨t, x, rfl⟩ := hv.form
      obtain ⟨g, q, gf0, got, rfl, hg, _, _, _, _, hr⟩ := hst
      have c0 := cell_of_block hg 0
      have hu1 := setM w M 6 (.pointer q)
      have hM1 : (w.setCell ⟨M, 6, none⟩ (.pointer q)).heap[M]? = some (Obj.cells (mcC b s.pc (.iface t x) (ptrV gf) app args (.pointer q) out 0 0 0 ⟨#[]⟩) 119 (0, 0)) := (heap_setCell_same hM).trans rfl
      have h1 := (h.ext hM hu1 hM1).regs { s with st := r } (.iface t x) app args q gf rfl rfl rfl (by have := OV.keep (Go.Proofs.YtlobegpjenabaaaGreatDoor.keepM hM hu1 (by decide)) (Le.refl _) _ _ h.val; exact this) h.fr (h.ext hM hu1 hM1).app (hr.keepM hM hu1)
      have hfl : s.fr < s.frs.length := h.fdm _ _ h.fr
      have h1d := h1.drew
      have hgw1 : Gw X ow w X ow (w.setCell ⟨M, 6, none⟩ (.pointer q)).drew := h.gw hu1.drew
      cases hfr : s.frs[s.fr]? with
      | none => rw [hfr] at hn; exact absurd rfl hn
      | some fr =>
        rw [hfr] at hn
        simp only [] at hn ⊢
        by_cases hlt : fr.ns.length < 1000000
        · rw [if_pos hlt]
          obtain ⟨g', pn, nv, vv, op, xs, hg', hF⟩ := h1d.frs s.fr fr hfr
          have hgf : g' = gf := by have h2 := h.fr; rw [h2] at hg'; cases hg'; rfl
          subst hgf
          have hMd : (w.setCell ⟨M, 6, none⟩ (.pointer q)).drew.heap[M]? = some (Obj.cells (mcC b s.pc (.iface t x) (ptrV g') app args (.pointer q) out 0 0 0 ⟨#[]⟩) 119 (0, 0)) := hM1
          have hMw : ∀ w2, Upd (fun k => ow k = some (s.fr + 1)) (w.setCell ⟨M, 6, none⟩ (.pointer q)).drew w2 → w2.heap[M]? = some (Obj.cells (mcC b s.pc (.iface t x) (ptrV g') app args (.pointer q) out 0 0 0 ⟨#[]⟩) 119 (0, 0)) := fun w2 hu2 => by
            rw [hu2.block M (lt_of_some hMd) (by rw [h.owM]; simp)]; exact hMd
          refine (define_raw w M g g' n q t x _ k6 (frozen_of_block hM 6) c0 k3 k2 (hide (define_go hF h1d.owx n t x hlt)) (hide ?_)).mono ?_
          · intro e w2 hp
            have hM2 := hMw w2 hp.2.1
            exact ⟨hp.1, by rw [cell_of_block hM2]; rfl, frozen_of_block hM2 2⟩
          · rintro e w' ⟨w2, rfl, hp, rfl⟩
            have hM2 := hMw w2 hp.2.1
            obtain ⟨nv2, vv2, hS2, hn2, hv2⟩ := hp.rows v
            have hlen := idxI_none_len fr n v hF.len
            have hkp : Keep 205 (w.setCell ⟨M, 6, none⟩ (.pointer q)).drew w2 := KI.of_upd (fun k hk => h1d.xty k (h1d.owx _ _ hk)) hp.2.1 _ (by decide)
            have hvs : VXs w2 mo (fr.define n v).vs (match idxI fr.ns n with
              | some j => xs.set j (.iface t x)
              | none => xs ++ [.iface t x]) := by
              have a1 := VXs.keep hkp (Le.refl _) _ _ hF.vs
              have a2 : VX w2 mo v (.iface t x) := VX.keep hkp (Le.refl _) _ _ (VX.keep (Go.Proofs.YtlobegpjenabaaaGreatDoor.keepM hM hu1.drew (by decide)) (Le.refl _) _ _ hv)
              unfold Fr.define
              cases idxI fr.ns n with
              | some j => exact VXs.set j v _ a1 a2
              | none => exact VXs.append a1 ⟨a2, trivial⟩
            obtain ⟨X', ow', h2, hG2⟩ := h1d.reframe s.fr g' (fr.define n v) pn nv2 vv2 op _ hfl hg' hp.2.1 hF.tag hS2 hn2 hv2 hvs (by rw [hlen.2.2]; exact hF.out) hlen.1 (by have := hlen.2.1; omega)
            obtain ⟨X2, ow2, hMR, hG⟩ := h2.go hM2 (setM w2 M 2 (.iface 259 (.agg #[]))) { s with st := r, val := some .nothing, frs := s.frs.set s.fr (fr.define n v) } (.iface 259 (.agg #[])) app args q g' ((heap_setCell_same hM2).trans rfl) rfl rfl rfl (fun h' => ⟨rfl, h'.fr, h'.app, h'.st⟩)
            exact ⟨rfl, X2, ow2, hMR, (hgw1.trans hG2).trans hG⟩
        · rw [if_neg hlt] at hn; exact absurd rfl hn
end Go.Proofs.YtlobegpjenabaaaGreatDoor
