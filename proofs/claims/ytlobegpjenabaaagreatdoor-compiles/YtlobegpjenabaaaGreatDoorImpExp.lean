/- expr: ofList of any list, Of of any datum. -/
import Derived.Test.YtlobegpjenabaaaGreatDoorImpOf
namespace Go.Proofs.YtlobegpjenabaaaGreatDoor
open Go.RowKit
set_option linter.unusedSimpArgs false
set_option linter.unusedVariables false

theorem wt_forms (d : D) (ds : List D) : wtL ds + 2 ≤ wtL (d :: ds) + 1 := by
  have := wtD_pos d
  simp only [wtL]; omega

theorem head_quote (ds : List D) : headK (.lit (.string [113, 117, 111, 116, 101]) :: ds) = [113, 117, 111, 116, 101] := by
  rw [headK, if_pos (by decide)]
theorem head_choice (ds : List D) : headK (.lit (.string [105, 102]) :: ds) = [105, 102] := by
  rw [headK, if_pos (by decide)]
theorem head_define (ds : List D) : headK (.lit (.string [100, 101, 102, 105, 110, 101]) :: ds) = [100, 101, 102, 105, 110, 101] := by
  rw [headK, if_pos (by decide)]
theorem head_set (ds : List D) : headK (.lit (.string [115, 101, 116, 33]) :: ds) = [115, 101, 116, 33] := by
  rw [headK, if_pos (by decide)]
theorem head_lambda (ds : List D) : headK (.lit (.string [108, 97, 109, 98, 100, 97]) :: ds) = [108, 97, 109, 98, 100, 97] := by
  rw [headK, if_pos (by decide)]
theorem head_sequence (ds : List D) : headK (.lit (.string [98, 101, 103, 105, 110]) :: ds) = [98, 101, 103, 105, 110] := by
  rw [headK, if_pos (by decide)]
theorem head_let (ds : List D) : headK (.lit (.string [108, 101, 116]) :: ds) = [108, 101, 116] := by
  rw [headK, if_pos (by decide)]
theorem dec_succ (a b : Nat) : decide (a + 1 = b + 1) = decide (a = b) := by simp
theorem dec_le_succ (a b : Nat) : decide (b + 1 ≤ a + 1) = decide (b ≤ a) := by simp
theorem exprF_quote (n : Nat) (ds : List D) : exprF (n + 1) (.agg (.lit (.string [113, 117, 111, 116, 101]) :: ds)) = decide (ds.length = 1) := by
  rw [exprF, head_quote, if_pos rfl, List.length_cons, dec_succ]
theorem exprF_choice (n : Nat) (ds : List D) : exprF (n + 1) (.agg (.lit (.string [105, 102]) :: ds)) = ((decide (ds.length = 2) || decide (ds.length = 3)) && ds.all (exprF n)) := by
  rw [exprF, head_choice, if_neg (by decide), if_pos rfl, List.length_cons, dec_succ, dec_succ, List.tail_cons]
theorem exprF_set (n : Nat) (ds : List D) : exprF (n + 1) (.agg (.lit (.string [115, 101, 116, 33]) :: ds)) = (decide (ds.length = 2) && varD (ds.getD 0 (lst [])) && (ds.drop 1).all (exprF n)) := by
  rw [exprF, head_set, if_neg (by decide), if_neg (by decide), if_pos rfl, List.length_cons, dec_succ, List.getD_cons_succ, List.drop_succ_cons]
theorem exprF_lambda (n : Nat) (ds : List D) : exprF (n + 1) (.agg (.lit (.string [108, 97, 109, 98, 100, 97]) :: ds)) = (decide (2 ≤ ds.length) && isList (ds.getD 0 (num 0)) && varsL [] (itemsD (ds.getD 0 (num 0))) && (ds.drop 1).all (exprF n)) := by
  rw [exprF, head_lambda, if_neg (by decide), if_neg (by decide), if_neg (by decide), if_pos rfl, List.length_cons, dec_le_succ, List.getD_cons_succ, List.drop_succ_cons]
theorem exprF_sequence (n : Nat) (ds : List D) : exprF (n + 1) (.agg (.lit (.string [98, 101, 103, 105, 110]) :: ds)) = (decide (0 < ds.length) && ds.all (exprF n)) := by
  rw [exprF, head_sequence, if_neg (by decide), if_neg (by decide), if_neg (by decide), if_neg (by decide), if_pos rfl, List.length_cons, dec_le_succ, List.tail_cons]; rfl
theorem exprF_define (n : Nat) (ds : List D) : exprF (n + 1) (.agg (.lit (.string [100, 101, 102, 105, 110, 101]) :: ds)) = defB (exprF n) ds := by
  rw [exprF, head_define, if_neg (by decide), if_neg (by decide), if_neg (by decide), if_neg (by decide), if_neg (by decide), if_pos rfl, defB]
  simp only [List.length_cons, List.getD_cons_succ, List.drop_succ_cons, dec_succ, Nat.add_le_add_iff_right]
  have : (3 ≤ ds.length + 1 ∧ 0 < (itemsD (ds.getD 0 (num 0))).length) ↔ (2 ≤ ds.length ∧ 0 < (itemsD (ds.getD 0 (num 0))).length) := by omega
  simp only [this]
theorem exprF_let (n : Nat) (ds : List D) : exprF (n + 1) (.agg (.lit (.string [108, 101, 116]) :: ds)) = (decide (2 ≤ ds.length) && isList (ds.getD 0 (num 0)) && bindL (exprF n) [] (itemsD (ds.getD 0 (num 0))) && varsL [] ((itemsD (ds.getD 0 (num 0))).map fun b => (itemsD b).getD 0 (num 0)) && (ds.drop 1).all (exprF n)) := by
  rw [exprF, head_let, if_neg (by decide), if_neg (by decide), if_neg (by decide), if_neg (by decide), if_neg (by decide), if_neg (by decide), if_pos rfl, List.length_cons, dec_le_succ, List.getD_cons_succ, List.drop_succ_cons]
theorem exprF_apply (n : Nat) (d : D) (ds : List D) (h : headK (d :: ds) = []) : exprF (n + 1) (.agg (d :: ds)) = (d :: ds).all (exprF n) := by
  rw [exprF, h, if_neg (by decide), if_neg (by decide), if_neg (by decide), if_neg (by decide), if_neg (by decide), if_neg (by decide), if_neg (by decide)]
  simp

/-- ofList of any list that is not empty. -/
theorem ofList_any (n : Nat) (hof : OfC n) (x : Value) (vs : List Value) (d : D) (ds : List D) (v : Value) (w : World) (hrow : RowQ w v (x :: vs)) (hds : IVs w n (x :: vs) (d :: ds)) (hlen : (d :: ds).length ≤ 1000) (r : Bool) (HR : Hid (r = exprF (n + 1) (.agg (d :: ds)))) :
    Calls Tryz.prog 57 #[v] w (OfPost w (wtL (d :: ds) + 1) r) := by
  have hlv := hds.2.length
  have hl : ds.length ≤ 1000 := by simp at hlen; omega
  have hlv' : vs.length ≤ 1000 := by omega
  have app : headK (d :: ds) = [] → Calls Tryz.prog 96 #[v] w (OfPost w (wtL (d :: ds) + 1) r) := fun h =>
    application_go n hof (x :: vs) (d :: ds) v w hrow hds hlen (by simp) r (by show _ = _; rw [HR.out, exprF_apply n d ds h])
  have hq : ∀ tl, RowQ w tl vs → RowQ w tl vs := fun _ h => h
  cases n with
  | zero => exact hds.1.elim
  | succ n =>
  have hx := hds.1
  match d, hx with
  | .agg [], hx => have h : x = _ := hx.2; subst h; exact ofList_Empty _ vs v w _ r hrow (app rfl)
  | .agg (_ :: _), hx => obtain ⟨b, v1, v2, rfl, _⟩ := hx.2; exact ofList_Pair _ vs v w _ r hrow (app rfl)
  | .lit (.int k m), hx =>
    cases k <;> first | (cases hx; done) | (have h : some _ = some x := hx; cases h; exact ofList_Int _ vs v w _ r hrow (app rfl))
  | .lit (.bool b), hx => have h : some _ = some x := hx; cases h; exact ofList_Bool _ vs v w _ r hrow (app rfl)
  | .lit (.string s), hx =>
    have h : some _ = some x := hx
    cases h
    cases hk : kwB s with
    | false => exact ofList_name ⟨s.toArray⟩ (by simpa using hk) vs v w _ r hrow (app (by rw [headK, hk]; rfl))
    | true =>
      have hmem : s ∈ kws := by rw [kwB, List.contains_iff_mem] at hk; exact hk
      simp only [kws, List.mem_cons, List.not_mem_nil, or_false] at hmem
      have wt := wt_forms (.lit (.string s)) ds
      rcases hmem with rfl | rfl | rfl | rfl | rfl | rfl | rfl
      · rw [exprF_quote] at HR
        exact ofList_quote vs v w _ r hrow hlv' fun tl ht => (quote_go _ vs ds tl w ht hds.2 hl r HR).mono fun e w' h => h.mono (by omega)
      · rw [exprF_choice] at HR
        exact ofList_choice vs v w _ r hrow hlv' fun tl ht => (choice_any _ hof vs ds tl w ht hds.2 hl r HR).mono fun e w' h => h.mono (by omega)
      · rw [exprF_define] at HR
        exact ofList_define vs v w _ r hrow hlv' fun tl ht => (define_any _ hof vs ds tl w ht hds.2 hl r HR).mono fun e w' h => h.mono (by omega)
      · rw [exprF_set] at HR
        exact ofList_set vs v w _ r hrow hlv' fun tl ht => (set_go _ hof vs ds tl w ht hds.2 hl r HR).mono fun e w' h => h.mono (by omega)
      · rw [exprF_lambda] at HR
        exact ofList_lambda vs v w _ r hrow hlv' fun tl ht => (lambda_any _ hof vs ds tl w ht hds.2 hl r HR).mono fun e w' h => h.mono (by omega)
      · rw [exprF_sequence] at HR
        exact ofList_sequence vs v w _ r hrow hlv' fun tl ht => (sequence_go _ hof vs ds tl w ht hds.2 hl r HR).mono fun e w' h => h.mono (by omega)
      · rw [exprF_let] at HR
        exact ofList_let vs v w _ r hrow hlv' fun tl ht => (let_any _ hof vs ds tl w ht hds.2 hl r HR).mono fun e w' h => h.mono (by omega)
  | .lit (.float _ _), hx => cases hx
  | .lit .nil, hx => cases hx
  | .nil, hx => cases hx
  | .ptr _, hx => cases hx
  | .slice _ _, hx => cases hx
  | .iface _ _, hx => cases hx
  | .map _, hx => cases hx
  | .held _, hx => cases hx

theorem as_int_of (v : Int) (w : World) : (Instr.typeAssert (.iface 130 (.int .i64 v)) 81 130 true).run Tryz.prog w = .ok (.tuple #[.int .i64 v, .bool true]) w := by kernel_rfl
theorem as_bool_of (v : Bool) (w : World) : (Instr.typeAssert (.iface 131 (.bool v)) 81 131 true).run Tryz.prog w = .ok (.tuple #[.bool v, .bool true]) w := by kernel_rfl
theorem as_int_Bool (v : Value) (w : World) : (Instr.typeAssert (.iface 131 v) 81 130 true).run Tryz.prog w = .ok (.tuple #[.int .i64 0, .bool false]) w := by kernel_rfl
theorem as_int_Symbol (v : Value) (w : World) : (Instr.typeAssert (.iface 134 v) 81 130 true).run Tryz.prog w = .ok (.tuple #[.int .i64 0, .bool false]) w := by kernel_rfl
theorem as_int_Empty (v : Value) (w : World) : (Instr.typeAssert (.iface 207 v) 81 130 true).run Tryz.prog w = .ok (.tuple #[.int .i64 0, .bool false]) w := by kernel_rfl
theorem as_int_Pair (v : Value) (w : World) : (Instr.typeAssert (.iface 136 v) 81 130 true).run Tryz.prog w = .ok (.tuple #[.int .i64 0, .bool false]) w := by kernel_rfl
theorem as_bool_Int (v : Value) (w : World) : (Instr.typeAssert (.iface 130 v) 81 131 true).run Tryz.prog w = .ok (.tuple #[.bool false, .bool false]) w := by kernel_rfl
theorem as_bool_Symbol (v : Value) (w : World) : (Instr.typeAssert (.iface 134 v) 81 131 true).run Tryz.prog w = .ok (.tuple #[.bool false, .bool false]) w := by kernel_rfl
theorem as_bool_Empty (v : Value) (w : World) : (Instr.typeAssert (.iface 207 v) 81 131 true).run Tryz.prog w = .ok (.tuple #[.bool false, .bool false]) w := by kernel_rfl
theorem as_bool_Pair (v : Value) (w : World) : (Instr.typeAssert (.iface 136 v) 81 131 true).run Tryz.prog w = .ok (.tuple #[.bool false, .bool false]) w := by kernel_rfl

set_option maxHeartbeats 2000000 in
theorem of_int (k : Int) (w : World) : Calls Tryz.prog 40 #[.iface 130 (.int .i64 k)] w (OfPost w 1 true) := by
  have h1 := as_int_of
  have h2 := as_bool_Int
  go_enter Tryz.func40, Tryz.ntmps40
  go_wp2
  go_ret2
  exact ⟨⟨_, rfl, fun _ => ⟨1, Nat.le_refl _, .const _ _⟩⟩, Below.refl _ _⟩
set_option maxHeartbeats 2000000 in
theorem of_bool (k : Bool) (w : World) : Calls Tryz.prog 40 #[.iface 131 (.bool k)] w (OfPost w 1 true) := by
  have h1 := as_int_Bool
  have h2 := as_bool_of
  go_enter Tryz.func40, Tryz.ntmps40
  go_wp2
  go_ret2
  exact ⟨⟨_, rfl, fun _ => ⟨1, Nat.le_refl _, .const _ _⟩⟩, Below.refl _ _⟩
set_option maxHeartbeats 2000000 in
theorem of_empty (w : World) : Calls Tryz.prog 40 #[.iface 207 (.agg #[])] w (OfPost w 1 false) := by
  have h1 := as_int_Empty
  have h2 := as_bool_Empty
  have h3 := as_sym_Empty
  have h4 := as_pair_Empty
  go_enter Tryz.func40, Tryz.ntmps40
  go_wp2
  go_ret2
  exact ⟨⟨_, rfl, fun h => by cases h⟩, Below.refl _ _⟩
set_option maxHeartbeats 2000000 in
theorem of_sym (s : ByteArray) (w : World) (r : Bool) (HR : Hid (r = !(kwB s.data.toList))) : Calls Tryz.prog 40 #[.iface 134 (.string s)] w (OfPost w (s.size + 1) r) := by
  have HF := hide (reference_go s w r HR)
  have h1 := as_int_Symbol
  have h2 := as_bool_Symbol
  have h3 := as_sym
  clear HR
  go_enter Tryz.func40, Tryz.ntmps40
  go_wp2_with fail
  refine HF.out.mono ?_
  intro e w3 h3
  have HPost := hide h3
  obtain ⟨⟨u3, rfl, _⟩, _⟩ := h3
  go_wp2
  go_ret2
  exact HPost.out
set_option maxHeartbeats 2000000 in
theorem of_pair (n : Nat) (hof : OfC n) (a : Option Addr) (d : D) (ds : List D) (w : World) (hv : IV w (n + 1) (.iface 136 (.pointer a)) (.agg (d :: ds))) (r : Bool) (HR : Hid (r = exprF (n + 1) (.agg (d :: ds)))) : Calls Tryz.prog 40 #[.iface 136 (.pointer a)] w (OfPost w (wtL (d :: ds) + 1) r) := by
  have HV := hide hv
  have HL := hide hv.1
  have HOF := hide hof
  have h1 := as_int_Pair
  have h2 := as_bool_Pair
  have h3 := as_sym_Pair
  have h4 := as_pair
  clear hv hof
  go_enter Tryz.func40, Tryz.ntmps40
  go_wp2_with fail
  refine (iitems_any n (.agg (d :: ds)) _ _ HV.out).mono ?_
  rintro e w2 ⟨u, us, rfl, hru, hus, hb⟩
  have HB := hide hb
  have HF := hide (show Calls Tryz.prog 57 #[u] w2 (OfPost w2 (wtL (d :: ds) + 1) r) from by
    match us, hus with
    | [], hus => exact hus.elim
    | x :: us, hus => exact ofList_any n HOF.out x us d ds u w2 (RowI.q hru) hus HL.out r HR)
  rw [show isList (.agg (d :: ds)) = true from rfl]
  clear hru hus hb HR
  go_wp2_with fail
  refine HF.out.mono ?_
  intro e w3 h3
  have HPost := hide (h3.since HB.out)
  obtain ⟨⟨u3, rfl, _⟩, _⟩ := h3
  go_wp2
  go_ret2
  exact HPost.out

/-- Of, of whatever is read. -/
theorem of_any : ∀ n, OfC n
  | 0 => fun d v w r h _ => h.elim
  | n + 1 => fun d v w r hv HR => by
    match d, hv with
    | .agg [], hv =>
      have h : v = _ := hv.2
      subst h
      have hr : r = false := by rw [HR.out]; rfl
      subst hr
      exact of_empty w
    | .agg (d :: ds), hv =>
      obtain ⟨b, v1, v2, rfl, _⟩ := hv.2
      exact of_pair n (of_any n) _ d ds w hv r HR
    | .lit (.int k m), hv =>
      cases k <;> first | (cases hv; done) | (have h : some _ = some v := hv; cases h; have hr : r = true := HR.out; subst hr; exact of_int m w)
    | .lit (.bool b), hv => have h : some _ = some v := hv; cases h; have hr : r = true := HR.out; subst hr; exact of_bool b w
    | .lit (.string s), hv =>
      have h : some _ = some v := hv
      cases h
      exact (of_sym ⟨s.toArray⟩ w r (by show _ = _; rw [HR.out]; simp [exprF])).mono fun e w' h => h.mono (by simp [wtD, ByteArray.size])
    | .lit (.float _ _), hv => cases hv
    | .lit .nil, hv => cases hv
    | .nil, hv => cases hv
    | .ptr _, hv => cases hv
    | .slice _ _, hv => cases hv
    | .iface _ _, hv => cases hv
    | .map _, hv => cases hv
    | .held _, hv => cases hv
end Go.Proofs.YtlobegpjenabaaaGreatDoor
