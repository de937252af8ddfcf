/- expr: ofList of any list, Of of any datum. -/
import Derived.Test.YtlobegpjenabaaaGreatDoorL11
import Derived.Maps.OwnSet
import Derived.Maps.OwnOps
namespace Go.Proofs.YtlobegpjenabaaaGreatDoor
open Go.RowKit
set_option linter.unusedSimpArgs false
set_option linter.unusedVariables false

theorem head_quote (ds : List D) : headK (.lit (.string [113, 117, 111, 116, 101]) :: ds) = [113, 117, 111, 116, 101] := by
  rw [headK, if_pos (by decide)]
theorem head_choice (ds : List D) : headK (.lit (.string [105, 102]) :: ds) = [105, 102] := by
  rw [headK, if_pos (by decide)]
theorem head_define (ds : List D) : headK (.lit (.string [100, 101, 102, 105, 110, 101]) :: ds) = [100, 101, 102, 105, 110, 101] := by
  rw [headK, if_pos (by decide)]
theorem head_set (ds : List D) : headK (.lit (.string [115, 101, 116, 33]) :: ds) = [115, 101, 116, 33] := by
  rw [headK, if_pos (by decide)]
theorem head_lambda (ds : List D) : headK (.lit (.string [108, 97, 109, 98, 100, 97]) :: ds) = [108, 97, 109, 98, 100, 97] := by
  rw [headK, if_pos (by decide)]
theorem head_sequence (ds : List D) : headK (.lit (.string [98, 101, 103, 105, 110]) :: ds) = [98, 101, 103, 105, 110] := by
  rw [headK, if_pos (by decide)]
theorem head_let (ds : List D) : headK (.lit (.string [108, 101, 116]) :: ds) = [108, 101, 116] := by
  rw [headK, if_pos (by decide)]
theorem dec_succ (a b : Nat) : decide (a + 1 = b + 1) = decide (a = b) := by simp
theorem dec_le_succ (a b : Nat) : decide (b + 1 ≤ a + 1) = decide (b ≤ a) := by simp
theorem exprF_quote (n : Nat) (ds : List D) : exprF (n + 1) (.agg (.lit (.string [113, 117, 111, 116, 101]) :: ds)) = decide (ds.length = 1) := by
  rw [exprF, head_quote, if_pos rfl, List.length_cons, dec_succ]
theorem exprF_choice (n : Nat) (ds : List D) : exprF (n + 1) (.agg (.lit (.string [105, 102]) :: ds)) = ((decide (ds.length = 2) || decide (ds.length = 3)) && ds.all (exprF n)) := by
  rw [exprF, head_choice, if_neg (by decide), if_pos rfl, List.length_cons, dec_succ, dec_succ, List.tail_cons]
theorem exprF_set (n : Nat) (ds : List D) : exprF (n + 1) (.agg (.lit (.string [115, 101, 116, 33]) :: ds)) = (decide (ds.length = 2) && varD (ds.getD 0 (lst [])) && (ds.drop 1).all (exprF n)) := by
  rw [exprF, head_set, if_neg (by decide), if_neg (by decide), if_pos rfl, List.length_cons, dec_succ, List.getD_cons_succ, List.drop_succ_cons]
theorem exprF_lambda (n : Nat) (ds : List D) : exprF (n + 1) (.agg (.lit (.string [108, 97, 109, 98, 100, 97]) :: ds)) = (decide (2 ≤ ds.length) && isList (ds.getD 0 (num 0)) && varsL [] (itemsD (ds.getD 0 (num 0))) && (ds.drop 1).all (exprF n)) := by
  rw [exprF, head_lambda, if_neg (by decide), if_neg (by decide), if_neg (by decide), if_pos rfl, List.length_cons, dec_le_succ, List.getD_cons_succ, List.drop_succ_cons]
theorem exprF_sequence (n : Nat) (ds : List D) : exprF (n + 1) (.agg (.lit (.string [98, 101, 103, 105, 110]) :: ds)) = (decide (0 < ds.length) && ds.all (exprF n)) := by
  rw [exprF, head_sequence, if_neg (by decide), if_neg (by decide), if_neg (by decide), if_neg (by decide), if_pos rfl, List.length_cons, dec_le_succ, List.tail_cons]; rfl
theorem exprF_define (n : Nat) (ds : List D) : exprF (n + 1) (.agg (.lit (.string [100, 101, 102, 105, 110, 101]) :: ds)) = defB (exprF n) ds := by
  rw [exprF, head_define, if_neg (by decide), if_neg (by decide), if_neg (by decide), if_neg (by decide), if_neg (by decide), if_pos rfl, defB]
  simp only [List.length_cons, List.getD_cons_succ, List.drop_succ_cons, dec_succ, Nat.add_le_add_iff_right]
  have : (3 ≤ ds.length + 1 ∧ 0 < (itemsD (ds.getD 0 (num 0))).length) ↔ (2 ≤ ds.length ∧ 0 < (itemsD (ds.getD 0 (num 0))).length) := by omega
  simp only [this]
theorem exprF_let (n : Nat) (ds : List D) : exprF (n + 1) (.agg (.lit (.string [108, 101, 116]) :: ds)) = (decide (2 ≤ ds.length) && isList (ds.getD 0 (num 0)) && bindL (exprF n) [] (itemsD (ds.getD 0 (num 0))) && varsL [] ((itemsD (ds.getD 0 (num 0))).map fun b => (itemsD b).getD 0 (num 0)) && (ds.drop 1).all (exprF n)) := by
  rw [exprF, head_let, if_neg (by decide), if_neg (by decide), if_neg (by decide), if_neg (by decide), if_neg (by decide), if_neg (by decide), if_pos rfl, List.length_cons, dec_le_succ, List.getD_cons_succ, List.drop_succ_cons]
theorem exprF_apply (n : Nat) (d : D) (ds : List D) (h : headK (d :: ds) = []) : exprF (n + 1) (.agg (d :: ds)) = (d :: ds).all (exprF n) := by
  rw [exprF, h, if_neg (by decide), if_neg (by decide), if_neg (by decide), if_neg (by decide), if_neg (by decide), if_neg (by decide), if_neg (by decide)]
  simp

theorem exprS_quote (n : Nat) (ds : List D) : exprS (n + 1) (.agg (.lit (.string [113, 117, 111, 116, 101]) :: ds)) = quoS ds := by
  rw [exprS, head_quote, if_pos rfl, List.tail_cons]
theorem exprS_choice (n : Nat) (ds : List D) : exprS (n + 1) (.agg (.lit (.string [105, 102]) :: ds)) = (eachS (exprS n) ds).bind ifS := by
  rw [exprS, head_choice, if_neg (by decide), if_pos rfl, List.tail_cons]
theorem exprS_set (n : Nat) (ds : List D) : exprS (n + 1) (.agg (.lit (.string [115, 101, 116, 33]) :: ds)) = nvS (exprS n) .set ds := by
  rw [exprS, head_set, if_neg (by decide), if_neg (by decide), if_pos rfl, List.tail_cons]
theorem exprS_lambda (n : Nat) (ds : List D) : exprS (n + 1) (.agg (.lit (.string [108, 97, 109, 98, 100, 97]) :: ds)) = lamS (exprS n) ds := by
  rw [exprS, head_lambda, if_neg (by decide), if_neg (by decide), if_neg (by decide), if_pos rfl, List.tail_cons]
theorem exprS_sequence (n : Nat) (ds : List D) : exprS (n + 1) (.agg (.lit (.string [98, 101, 103, 105, 110]) :: ds)) = bodyS (exprS n) ds := by
  rw [exprS, head_sequence, if_neg (by decide), if_neg (by decide), if_neg (by decide), if_neg (by decide), if_pos rfl, List.tail_cons]
theorem exprS_define (n : Nat) (ds : List D) : exprS (n + 1) (.agg (.lit (.string [100, 101, 102, 105, 110, 101]) :: ds)) = defS (exprS n) ds := by
  rw [exprS, head_define, if_neg (by decide), if_neg (by decide), if_neg (by decide), if_neg (by decide), if_neg (by decide), if_pos rfl, List.tail_cons]
theorem exprS_let (n : Nat) (ds : List D) : exprS (n + 1) (.agg (.lit (.string [108, 101, 116]) :: ds)) = letS (exprS n) ds := by
  rw [exprS, head_let, if_neg (by decide), if_neg (by decide), if_neg (by decide), if_neg (by decide), if_neg (by decide), if_neg (by decide), if_pos rfl, List.tail_cons]
theorem exprS_apply (n : Nat) (d : D) (ds : List D) (h : headK (d :: ds) = []) : exprS (n + 1) (.agg (d :: ds)) = (eachS (exprS n) (d :: ds)).map .apply := by
  rw [exprS, h, if_neg (by decide), if_neg (by decide), if_neg (by decide), if_neg (by decide), if_neg (by decide), if_neg (by decide), if_neg (by decide), if_neg (by simp)]

/-- ofList of any list that is not empty. -/
theorem ofList_any (n : Nat) (hof : OfC n) (x : Value) (vs : List Value) (d : D) (ds : List D) (v : Value) (w : World) (hrow : RowQ w v (x :: vs)) (hds : IVs w n (x :: vs) (d :: ds)) (hlen : (d :: ds).length ≤ 1000) (r : Bool) (HR : Hid (r = exprF (n + 1) (.agg (d :: ds)))) :
    Calls Tryz.prog 57 #[v] w (OfPost w (fun e => exprS (n + 1) (.agg (d :: ds)) = some e) r) := by
  have hlv := hds.2.length
  have hl : ds.length ≤ 1000 := by simp at hlen; omega
  have hlv' : vs.length ≤ 1000 := by omega
  have app : headK (d :: ds) = [] → Calls Tryz.prog 96 #[v] w (OfPost w (fun e => exprS (n + 1) (.agg (d :: ds)) = some e) r) := fun h => by
    rw [exprS_apply n d ds h]
    exact application_go n hof (x :: vs) (d :: ds) v w hrow hds hlen (by simp) r (by show _ = _; rw [HR.out, exprF_apply n d ds h])
  have hq : ∀ tl, RowQ w tl vs → RowQ w tl vs := fun _ h => h
  cases n with
  | zero => exact hds.1.elim
  | succ n =>
  have hx := hds.1
  match d, hx with
  | .agg [], hx => have h : x = _ := hx.2; subst h; exact ofList_Empty _ vs v w _ r hrow (app rfl)
  | .agg (_ :: _), hx => obtain ⟨b, v1, v2, rfl, _⟩ := hx.2; exact ofList_Pair _ vs v w _ r hrow (app rfl)
  | .lit (.int k m), hx =>
    cases k <;> first | (cases hx; done) | (have h : some _ = some x := hx; cases h; exact ofList_Int _ vs v w _ r hrow (app rfl))
  | .lit (.bool b), hx => have h : some _ = some x := hx; cases h; exact ofList_Bool _ vs v w _ r hrow (app rfl)
  | .lit (.string s), hx =>
    have h : some _ = some x := hx
    cases h
    cases hk : kwB s with
    | false => exact ofList_name ⟨s.toArray⟩ (by simpa using hk) vs v w _ r hrow (app (by rw [headK, hk]; rfl))
    | true =>
      have hmem : s ∈ kws := by rw [kwB, List.contains_iff_mem] at hk; exact hk
      simp only [kws, List.mem_cons, List.not_mem_nil, or_false] at hmem
      rcases hmem with rfl | rfl | rfl | rfl | rfl | rfl | rfl
      · rw [exprF_quote] at HR
        rw [exprS_quote]
        exact ofList_quote vs v w _ r hrow hlv' fun tl ht => quote_go _ vs ds tl w ht hds.2 hl r HR
      · rw [exprF_choice] at HR
        rw [exprS_choice]
        exact ofList_choice vs v w _ r hrow hlv' fun tl ht => choice_any _ hof vs ds tl w ht hds.2 hl r HR
      · rw [exprF_define] at HR
        rw [exprS_define]
        exact ofList_define vs v w _ r hrow hlv' fun tl ht => define_any _ hof vs ds tl w ht hds.2 hl r HR
      · rw [exprF_set] at HR
        rw [exprS_set]
        exact ofList_set vs v w _ r hrow hlv' fun tl ht => set_go _ hof vs ds tl w ht hds.2 hl r HR
      · rw [exprF_lambda] at HR
        rw [exprS_lambda]
        exact ofList_lambda vs v w _ r hrow hlv' fun tl ht => lambda_any _ hof vs ds tl w ht hds.2 hl r HR
      · rw [exprF_sequence] at HR
        rw [exprS_sequence]
        exact ofList_sequence vs v w _ r hrow hlv' fun tl ht => sequence_go _ hof vs ds tl w ht hds.2 hl r HR
      · rw [exprF_let] at HR
        rw [exprS_let]
        exact ofList_let vs v w _ r hrow hlv' fun tl ht => let_any _ hof vs ds tl w ht hds.2 hl r HR
  | .lit (.float _ _), hx => cases hx
  | .lit .nil, hx => cases hx
  | .nil, hx => cases hx
  | .ptr _, hx => cases hx
  | .slice _ _, hx => cases hx
  | .iface _ _, hx => cases hx
  | .map _, hx => cases hx
  | .held _, hx => cases hx

theorem as_int_of (v : Int) (w : World) : (Instr.typeAssert (.iface 130 (.int .i64 v)) 81 130 true).run Tryz.prog w = .ok (.tuple #[.int .i64 v, .bool true]) w := by kernel_rfl
theorem as_bool_of (v : Bool) (w : World) : (Instr.typeAssert (.iface 131 (.bool v)) 81 131 true).run Tryz.prog w = .ok (.tuple #[.bool v, .bool true]) w := by kernel_rfl
theorem as_int_Bool (v : Value) (w : World) : (Instr.typeAssert (.iface 131 v) 81 130 true).run Tryz.prog w = .ok (.tuple #[.int .i64 0, .bool false]) w := by kernel_rfl
theorem as_int_Symbol (v : Value) (w : World) : (Instr.typeAssert (.iface 134 v) 81 130 true).run Tryz.prog w = .ok (.tuple #[.int .i64 0, .bool false]) w := by kernel_rfl
theorem as_int_Empty (v : Value) (w : World) : (Instr.typeAssert (.iface 207 v) 81 130 true).run Tryz.prog w = .ok (.tuple #[.int .i64 0, .bool false]) w := by kernel_rfl
theorem as_int_Pair (v : Value) (w : World) : (Instr.typeAssert (.iface 136 v) 81 130 true).run Tryz.prog w = .ok (.tuple #[.int .i64 0, .bool false]) w := by kernel_rfl
theorem as_bool_Int (v : Value) (w : World) : (Instr.typeAssert (.iface 130 v) 81 131 true).run Tryz.prog w = .ok (.tuple #[.bool false, .bool false]) w := by kernel_rfl
theorem as_bool_Symbol (v : Value) (w : World) : (Instr.typeAssert (.iface 134 v) 81 131 true).run Tryz.prog w = .ok (.tuple #[.bool false, .bool false]) w := by kernel_rfl
theorem as_bool_Empty (v : Value) (w : World) : (Instr.typeAssert (.iface 207 v) 81 131 true).run Tryz.prog w = .ok (.tuple #[.bool false, .bool false]) w := by kernel_rfl
theorem as_bool_Pair (v : Value) (w : World) : (Instr.typeAssert (.iface 136 v) 81 131 true).run Tryz.prog w = .ok (.tuple #[.bool false, .bool false]) w := by kernel_rfl

set_option maxHeartbeats 2000000 in
theorem of_int (k : Int) (w : World) : Calls Tryz.prog 40 #[.iface 130 (.int .i64 k)] w (OfPost w (fun e => e = .const (.lit (.int .i64 k))) true) := by
  have h1 := as_int_of
  have h2 := as_bool_Int
  go_enter Tryz.func40, Tryz.ntmps40
  go_wp2
  go_ret2
  exact ⟨⟨_, rfl, fun _ => ⟨_, rfl, .const 1 _ _ _ rfl⟩⟩, Below.refl _ _⟩
set_option maxHeartbeats 2000000 in
theorem of_bool (k : Bool) (w : World) : Calls Tryz.prog 40 #[.iface 131 (.bool k)] w (OfPost w (fun e => e = .const (.lit (.bool k))) true) := by
  have h1 := as_int_Bool
  have h2 := as_bool_of
  go_enter Tryz.func40, Tryz.ntmps40
  go_wp2
  go_ret2
  exact ⟨⟨_, rfl, fun _ => ⟨_, rfl, .const 1 _ _ _ rfl⟩⟩, Below.refl _ _⟩
set_option maxHeartbeats 2000000 in
theorem of_empty (w : World) : Calls Tryz.prog 40 #[.iface 207 (.agg #[])] w (OfPost w (fun _ => False) false) := by
  have h1 := as_int_Empty
  have h2 := as_bool_Empty
  have h3 := as_sym_Empty
  have h4 := as_pair_Empty
  go_enter Tryz.func40, Tryz.ntmps40
  go_wp2
  go_ret2
  exact ⟨⟨_, rfl, fun h => by cases h⟩, Below.refl _ _⟩
set_option maxHeartbeats 2000000 in
theorem of_sym (s : ByteArray) (w : World) (r : Bool) (HR : Hid (r = !(kwB s.data.toList))) : Calls Tryz.prog 40 #[.iface 134 (.string s)] w (OfPost w (fun e => e = .var s.data.toList) r) := by
  have HF := hide (reference_go s w r HR)
  have h1 := as_int_Symbol
  have h2 := as_bool_Symbol
  have h3 := as_sym
  clear HR
  go_enter Tryz.func40, Tryz.ntmps40
  go_wp2_with fail
  refine HF.out.mono ?_
  intro e w3 h3
  have HPost := hide h3
  obtain ⟨⟨u3, rfl, _⟩, _⟩ := h3
  go_wp2
  go_ret2
  exact HPost.out
set_option maxHeartbeats 2000000 in
theorem of_pair (n : Nat) (hof : OfC n) (a : Option Addr) (d : D) (ds : List D) (w : World) (hv : IV w (n + 1) (.iface 136 (.pointer a)) (.agg (d :: ds))) (r : Bool) (HR : Hid (r = exprF (n + 1) (.agg (d :: ds)))) : Calls Tryz.prog 40 #[.iface 136 (.pointer a)] w (OfPost w (fun e => exprS (n + 1) (.agg (d :: ds)) = some e) r) := by
  have HV := hide hv
  have HL := hide hv.1
  have HOF := hide hof
  have h1 := as_int_Pair
  have h2 := as_bool_Pair
  have h3 := as_sym_Pair
  have h4 := as_pair
  clear hv hof
  go_enter Tryz.func40, Tryz.ntmps40
  go_wp2_with fail
  refine (iitems_any n (.agg (d :: ds)) _ _ HV.out).mono ?_
  rintro e w2 ⟨u, us, rfl, hru, hus, hb⟩
  have HB := hide hb
  have HF := hide (show Calls Tryz.prog 57 #[u] w2 (OfPost w2 (fun e => exprS (n + 1) (.agg (d :: ds)) = some e) r) from by
    match us, hus with
    | [], hus => exact hus.elim
    | x :: us, hus => exact ofList_any n HOF.out x us d ds u w2 (RowI.q hru) hus HL.out r HR)
  rw [show isList (.agg (d :: ds)) = true from rfl]
  clear hru hus hb HR
  go_wp2_with fail
  refine HF.out.mono ?_
  intro e w3 h3
  have HPost := hide (h3.since HB.out)
  obtain ⟨⟨u3, rfl, _⟩, _⟩ := h3
  go_wp2
  go_ret2
  exact HPost.out

/-- Of, of whatever is read. -/
theorem of_any : ∀ n, OfC n
  | 0 => fun d v w r h _ => h.elim
  | n + 1 => fun d v w r hv HR => by
    match d, hv with
    | .agg [], hv =>
      have h : v = _ := hv.2
      subst h
      have hr : r = false := by rw [HR.out]; rfl
      subst hr
      exact (of_empty w).mono fun e w' h => h.mono (fun _ hk => hk.elim)
    | .agg (d :: ds), hv =>
      obtain ⟨b, v1, v2, rfl, _⟩ := hv.2
      exact of_pair n (of_any n) _ d ds w hv r HR
    | .lit (.int k m), hv =>
      cases k <;> first | (cases hv; done) | (have h : some _ = some v := hv; cases h; have hr : r = true := HR.out; subst hr; exact (of_int m w).mono fun e w' h => h.mono (fun k hk => by rw [hk]; rfl))
    | .lit (.bool b), hv => have h : some _ = some v := hv; cases h; have hr : r = true := HR.out; subst hr; exact (of_bool b w).mono fun e w' h => h.mono (fun k hk => by rw [hk]; rfl)
    | .lit (.string s), hv =>
      have h : some _ = some v := hv
      cases h
      cases hkw : kwB s with
      | true =>
        have hf : r = false := by rw [HR.out]; simp [exprF, hkw]
        subst hf
        refine (of_sym ⟨s.toArray⟩ w false (by show _ = _; simp [hkw])).mono fun e w' h => ?_
        obtain ⟨⟨u, he, hu⟩, hb⟩ := h
        exact ⟨⟨u, he, fun h => by cases h⟩, hb⟩
      | false =>
        exact (of_sym ⟨s.toArray⟩ w r (by show _ = _; rw [HR.out]; simp [exprF])).mono fun e w' h => h.mono (fun k hk => by rw [hk]; simp [exprS, hkw])
    | .lit (.float _ _), hv => cases hv
    | .lit .nil, hv => cases hv
    | .nil, hv => cases hv
    | .ptr _, hv => cases hv
    | .slice _ _, hv => cases hv
    | .iface _ _, hv => cases hv
    | .map _, hv => cases hv
    | .held _, hv => cases hv
end Go.Proofs.YtlobegpjenabaaaGreatDoor

/- The code of an expression, as a plain function. -/
namespace Go.Proofs.YtlobegpjenabaaaGreatDoor
set_option linter.unusedSimpArgs false
set_option linter.unusedVariables false

/-- What a builder holds: instructions, constants (none: nothing), names, lambdas (name, variables, entry), bodies. -/
structure BS where
  is : List (Int × Int)
  cs : List (Option D)
  ns : List (List UInt8)
  ls : List (List UInt8 × List Nat × Nat)
  bs : List E
def BS.new : BS := ⟨[], [], [], [], []⟩
def emitS (st : BS) (op n : Int) : BS := { st with is := st.is ++ [(op, n)] }
/-- The instruction at place i goes on at the end. -/
def pointS (st : BS) (i : Nat) : BS := { st with is := st.is.set i (((st.is.getD i (0, 0)).1), (st.is.length : Int)) }
def constS (st : BS) (c : Option D) : BS := { st with cs := st.cs ++ [c] }
def nameS (st : BS) (s : List UInt8) : BS := { st with ns := if st.ns.contains s then st.ns else st.ns ++ [s] }
def numS (st : BS) (s : List UInt8) : Nat := st.ns.idxOf s
def endS (st : BS) (last : Bool) : BS := if last then emitS st 13 0 else st
/-- Names one by one. -/
def namesS : BS → List (List UInt8) → BS
  | st, [] => st
  | st, s :: r => namesS (nameS st s) r
def numsS : BS → List (List UInt8) → List Nat
  | _, [] => []
  | st, s :: r => numS st s :: numsS (nameS st s) r
def lamBS (st : BS) (nm : List UInt8) (xs : List (List UInt8)) (a : E) : BS :=
  { namesS st xs with ls := st.ls ++ [(nm, numsS st xs, 0)], bs := st.bs ++ [a] }

mutual
def putS : E → Bool → BS → BS
  | .const d, last, st => endS (emitS (constS st (some d)) 1 st.cs.length) last
  | .nothing, last, st => endS (emitS (constS st none) 1 st.cs.length) last
  | .var s, last, st => endS (emitS (nameS st s) 2 (numS st s)) last
  | .lambda nm xs a, last, st => endS (emitS (lamBS st nm xs a) 3 st.bs.length) last
  | .define s a, last, st =>
    let st1 := pointS (putS a false (emitS st 4 0)) st.is.length
    endS (emitS (nameS st1 s) 9 (numS st1 s)) last
  | .set s a, last, st =>
    let st1 := pointS (putS a false (emitS st 4 0)) st.is.length
    endS (emitS (nameS st1 s) 10 (numS st1 s)) last
  | .ite a b c, _, st =>
    let st1 := pointS (putS a false (emitS st 4 0)) st.is.length
    let st2 := pointS (putS b true (emitS st1 8 0)) st1.is.length
    putS c true st2
  | .seq es, last, st => seqP es 4 last st
  | .apply es, _, st => emitS (emitS (appP es 4 st) 11 0) 12 0
/-- All but the last within, each behind the instruction op, or 6; then the last. -/
def seqP : List E → Int → Bool → BS → BS
  | [], _, _, st => st
  | [e], _, last, st => putS e last (emitS st 7 0)
  | e :: r, op, last, st => seqP r 6 last (pointS (putS e false (emitS st op 0)) st.is.length)
/-- All within, each behind the instruction op, or 5. -/
def appP : List E → Int → BS → BS
  | [], _, st => st
  | e :: r, op, st => appP r 5 (pointS (putS e false (emitS st op 0)) st.is.length)
end
def withS (op : Int) (e : E) (st : BS) : BS := pointS (putS e false (emitS st op 0)) st.is.length
def formS (e : E) (st : BS) : BS := pointS (putS e true (emitS st 0 0)) st.is.length
def formsS : List E → BS → BS
  | [], st => st
  | e :: r, st => formsS r (formS e st)
def entryS (st : BS) (i : Nat) : BS := { st with ls := st.ls.set i ((st.ls.getD i ([], [], 0)).1, (st.ls.getD i ([], [], 0)).2.1, st.is.length) }
/-- The bodies from i on; the number: more than there are. -/
def bodiesS : Nat → Nat → BS → BS
  | 0, _, st => st
  | n + 1, i, st => match st.bs[i]? with
    | some e => bodiesS n (i + 1) (putS e true (entryS st i))
    | none => st
/-- The code of a program. -/
def codeS (es : List E) : BS := bodiesS 1048576 0 (emitS (formsS es BS.new) 14 0)

/-- How much a builder holds, and what its bodies weigh. -/
def BS.size (st : BS) : Nat := st.is.length + st.cs.length + st.ns.length + st.ls.length
def BS.pot (st : BS) : Nat := st.size + 8 * wtEs st.bs

theorem wtEs_append : ∀ (a b : List E), wtEs (a ++ b) = wtEs a + wtEs b
  | [], b => by simp [wtEs]
  | e :: r, b => by simp only [List.cons_append, wtEs, wtEs_append r b]; omega
theorem wtE_pos (e : E) : 1 ≤ wtE e := by cases e <;> simp [wtE]
theorem pot_emit (st : BS) (op n : Int) : (emitS st op n).pot = st.pot + 1 := by simp [emitS, BS.pot, BS.size]; omega
theorem pot_point (st : BS) (i : Nat) : (pointS st i).pot = st.pot := by simp [pointS, BS.pot, BS.size]
theorem pot_const (st : BS) (c : Option D) : (constS st c).pot = st.pot + 1 := by simp [constS, BS.pot, BS.size]; omega
theorem pot_name (st : BS) (s : List UInt8) : (nameS st s).pot ≤ st.pot + 1 := by
  simp only [nameS, BS.pot, BS.size]
  split <;> simp <;> omega
theorem pot_end (st : BS) (last : Bool) : (endS st last).pot ≤ st.pot + 1 := by
  unfold endS
  split
  · rw [pot_emit]; exact Nat.le_refl _
  · omega
theorem namesS_same : ∀ (xs : List (List UInt8)) (st : BS), (namesS st xs).is = st.is ∧ (namesS st xs).cs = st.cs ∧ (namesS st xs).ls = st.ls ∧ (namesS st xs).bs = st.bs ∧ (namesS st xs).ns.length ≤ st.ns.length + xs.length
  | [], st => ⟨rfl, rfl, rfl, rfl, Nat.le_refl _⟩
  | s :: r, st => by
    obtain ⟨h1, h2, h3, h4, h5⟩ := namesS_same r (nameS st s)
    refine ⟨h1, h2, h3, h4, ?_⟩
    have : (nameS st s).ns.length ≤ st.ns.length + 1 := by simp only [nameS]; split <;> simp
    simp only [namesS, List.length_cons]; omega
theorem pot_lam (st : BS) (nm : List UInt8) (xs : List (List UInt8)) (a : E) : (lamBS st nm xs a).pot ≤ st.pot + xs.length + 1 + 8 * wtE a := by
  obtain ⟨h1, h2, h3, h4, h5⟩ := namesS_same xs st
  simp only [lamBS, BS.pot, BS.size, h1, h2, wtEs_append, List.length_append, List.length_cons, List.length_nil, wtEs]
  omega
theorem names_wt : ∀ (xs : List (List UInt8)), xs.length ≤ (xs.map (fun s => s.length + 1)).sum
  | [] => Nat.le_refl _
  | s :: r => by have := names_wt r; simp; omega

mutual
theorem pot_put : ∀ (e : E) (last : Bool) (st : BS), (putS e last st).pot + 1 ≤ st.pot + 8 * wtE e
  | .const d, last, st => by
    have := pot_end (emitS (constS st (some d)) 1 st.cs.length) last
    rw [pot_emit, pot_const] at this
    simp only [putS, wtE]; omega
  | .nothing, last, st => by
    have := pot_end (emitS (constS st none) 1 st.cs.length) last
    rw [pot_emit, pot_const] at this
    simp only [putS, wtE]; omega
  | .var s, last, st => by
    have h1 := pot_end (emitS (nameS st s) 2 (numS st s)) last
    have h2 := pot_name st s
    rw [pot_emit] at h1
    simp only [putS, wtE]; omega
  | .lambda nm xs a, last, st => by
    have h1 := pot_end (emitS (lamBS st nm xs a) 3 st.bs.length) last
    have h2 := pot_lam st nm xs a
    have h3 := names_wt xs
    rw [pot_emit] at h1
    simp only [putS, wtE]; omega
  | .define s a, last, st => by
    have h0 := pot_put a false (emitS st 4 0)
    rw [pot_emit] at h0
    have h1 := pot_end (emitS (nameS (pointS (putS a false (emitS st 4 0)) st.is.length) s) 9 (numS (pointS (putS a false (emitS st 4 0)) st.is.length) s)) last
    have h2 := pot_name (pointS (putS a false (emitS st 4 0)) st.is.length) s
    rw [pot_emit] at h1
    rw [pot_point] at h2
    simp only [putS, wtE]; omega
  | .set s a, last, st => by
    have h0 := pot_put a false (emitS st 4 0)
    rw [pot_emit] at h0
    have h1 := pot_end (emitS (nameS (pointS (putS a false (emitS st 4 0)) st.is.length) s) 10 (numS (pointS (putS a false (emitS st 4 0)) st.is.length) s)) last
    have h2 := pot_name (pointS (putS a false (emitS st 4 0)) st.is.length) s
    rw [pot_emit] at h1
    rw [pot_point] at h2
    simp only [putS, wtE]; omega
  | .ite a b c, last, st => by
    have h0 := pot_put a false (emitS st 4 0)
    have h1 := pot_put b true (emitS (pointS (putS a false (emitS st 4 0)) st.is.length) 8 0)
    have h2 := pot_put c true (pointS (putS b true (emitS (pointS (putS a false (emitS st 4 0)) st.is.length) 8 0)) (pointS (putS a false (emitS st 4 0)) st.is.length).is.length)
    rw [pot_emit] at h0 h1
    rw [pot_point] at h1 h2
    simp only [putS, wtE]; omega
  | .seq es, last, st => by
    have := pot_seq es 4 last st
    simp only [putS, wtE]; omega
  | .apply es, last, st => by
    have := pot_app es 4 st
    simp only [putS, wtE]
    rw [pot_emit, pot_emit]; omega
theorem pot_seq : ∀ (es : List E) (op : Int) (last : Bool) (st : BS), (seqP es op last st).pot ≤ st.pot + 8 * wtEs es
  | [], op, last, st => by simp only [seqP]; omega
  | [e], op, last, st => by
    have := pot_put e last (emitS st 7 0)
    rw [pot_emit] at this
    simp only [seqP, wtEs]; omega
  | e :: e2 :: r, op, last, st => by
    have h1 := pot_put e false (emitS st op 0)
    have h2 := pot_seq (e2 :: r) 6 last (pointS (putS e false (emitS st op 0)) st.is.length)
    rw [pot_emit] at h1
    rw [pot_point] at h2
    simp only [seqP, wtEs] at *; omega
theorem pot_app : ∀ (es : List E) (op : Int) (st : BS), (appP es op st).pot ≤ st.pot + 8 * wtEs es
  | [], op, st => by simp only [appP]; omega
  | e :: r, op, st => by
    have h1 := pot_put e false (emitS st op 0)
    have h2 := pot_app r 5 (pointS (putS e false (emitS st op 0)) st.is.length)
    rw [pot_emit] at h1
    rw [pot_point] at h2
    simp only [appP, wtEs] at *; omega
end
end Go.Proofs.YtlobegpjenabaaaGreatDoor

/- code: the builder in memory, with all that it holds. -/
namespace Go.Proofs.YtlobegpjenabaaaGreatDoor
open Go.RowKit Go.Maps
set_option linter.unusedSimpArgs false
set_option linter.unusedVariables false

def strV (s : List UInt8) : Value := .string ⟨s.toArray⟩
theorem strV_of (z : ByteArray) : strV z.data.toList = .string z := by cases z; rfl
/-- Instructions as cells. -/
def flatI : List (Int × Int) → List Value
  | [] => []
  | p :: r => .int .i64 p.1 :: .int .i64 p.2 :: flatI r
theorem flatI_append : ∀ (a b : List (Int × Int)), flatI (a ++ b) = flatI a ++ flatI b
  | [], b => rfl
  | p :: r, b => by simp [flatI, flatI_append r b]
theorem flatI_set : ∀ (l : List (Int × Int)) (i : Nat) (n : Int), i < l.length → flatI (l.set i ((l.getD i (0, 0)).1, n)) = (flatI l).set (i * 2 + 1) (.int .i64 n)
  | [], i, n, h => absurd h (by simp)
  | p :: r, 0, n, h => by simp [flatI]
  | p :: r, i + 1, n, h => by
    have := flatI_set r i n (by simpa using h)
    simp only [List.set_cons_succ, flatI, List.getD_cons_succ] at *
    rw [this, show (i + 1) * 2 = (i * 2 + 1) + 1 by omega, List.set_cons_succ]
/-- Constants in memory. -/
def CV (w : World) : Option D → Value → Prop
  | none, v => v = .iface 259 (.agg #[])
  | some d, v => ∃ n, IV w n v d
def CVs (w : World) : List (Option D) → List Value → Prop
  | [], [] => True
  | c :: cs, v :: vs => CV w c v ∧ CVs w cs vs
  | _, _ => False
theorem CV.keep {w w' : World} (k : Keep 205 w w') : ∀ (c : Option D) (v : Value), CV w c v → CV w' c v
  | none, v, h => h
  | some d, v, ⟨n, h⟩ => ⟨n, IV.keep k _ _ _ h⟩
theorem CVs.keep {w w' : World} (k : Keep 205 w w') : ∀ (c : List (Option D)) (v : List Value), CVs w c v → CVs w' c v
  | [], [], _ => trivial
  | [], _ :: _, h => h.elim
  | _ :: _, [], h => h.elim
  | c :: cs, v :: vs, h => ⟨h.1.keep k, CVs.keep k cs vs h.2⟩
theorem CVs.snoc {w : World} : ∀ (cs : List (Option D)) (vs : List Value) (c : Option D) (v : Value), CVs w cs vs → CV w c v → CVs w (cs ++ [c]) (vs ++ [v])
  | [], [], c, v, _, h => ⟨h, trivial⟩
  | [], _ :: _, _, _, h, _ => h.elim
  | _ :: _, [], _, _, h, _ => h.elim
  | c :: cs, v :: vs, c', v', h, h' => ⟨h.1, CVs.snoc cs vs c' v' h.2 h'⟩
/-- Lambdas in memory: three cells each. -/
def LVs (w : World) (B : Nat) : List (List UInt8 × List Nat × Nat) → List Value → Prop
  | [], [] => True
  | l :: ls, a :: b :: c :: vs => (a = strV l.1 ∧ w.ownsRow B 3 1 b l.2.1.length (l.2.1.map fun (k : Nat) => Value.int .i64 k) ∧ c = .int .i64 l.2.2) ∧ LVs w B ls vs
  | _, _ => False
theorem ownsRow_keep {w w' : World} {B T s n : Nat} {u : Value} {xs : List Value} (hk : Keep T w w') (h : w.ownsRow B T s u n xs) : w'.ownsRow B T s u n xs := by
  obtain ⟨h1, h2⟩ := h
  refine ⟨h1, ?_⟩
  rcases h2 with h2 | ⟨g, cap, cu, hv, hg, hh, r⟩
  · exact .inl h2
  · exact .inr ⟨g, cap, cu, hv, hg, hk _ _ hh, r⟩
theorem keep_row {w w1 : World} {B T T' s n : Nat} {u : Value} {xs : List Value} (hr : w.ownsRow B T s u n xs) (hu : Upd (fun k => u.ownBlock = some k) w w1) (hne : T' ≠ T) : Keep T' w w1 :=
  Keep.of_upd hu fun k c hk h => by
    rcases hr.2 with ⟨hv, _⟩ | ⟨g, cap, cu, hv, hg, hh, r⟩
    · rw [hv] at hk; cases hk
    · rw [hv] at hk; cases hk
      rw [hh] at h; cases h; exact hne rfl
theorem keep_set {w : World} {b o Tb T' : Nat} {c : Array Value} {fz : Nat × Nat} {v : Value} (hb : w.heap[b]? = some (Obj.cells c Tb fz)) (hne : T' ≠ Tb) : Keep T' w (w.setCell ⟨b, o, none⟩ v) := fun x y h => by
  rw [Below.heap_setCell]
  · exact h
  · intro e
    have e : x = b := e
    subst e
    rw [hb] at h; cases h; exact hne rfl
theorem ownsMap_block {w w' : World} {m n : Nat} {Dm : DataW Unit} (h : w.ownsMap Tryz.prog 9 (plainElem (H := Unit) Tryz.prog 3) m n Dm) (he : w'.heap[m]? = w.heap[m]?) : w'.ownsMap Tryz.prog 9 (plainElem (H := Unit) Tryz.prog 3) m n Dm := by
  obtain ⟨es, cl, h1, h2⟩ := h
  exact ⟨es, cl, by rw [he]; exact h1, h2⟩
theorem map_upd {w w1 : World} {B T s n m k : Nat} {u : Value} {xs : List Value} {Dm : DataW Unit} (hr : w.ownsRow B T s u n xs) (hu : Upd (fun k => u.ownBlock = some k) w w1) (h : w.ownsMap Tryz.prog 9 (plainElem (H := Unit) Tryz.prog 3) m k Dm) : w1.heap[m]? = w.heap[m]? := by
  obtain ⟨es, cl, h1, h2⟩ := h
  refine hu.block m (lt_of_some h1) fun hk => ?_
  rcases hr.2 with ⟨hv, _⟩ | ⟨g, cap, cu, hv, hg, hh, r⟩
  · rw [hv] at hk; cases hk
  · rw [hv] at hk; cases hk
    rw [hh] at h1; cases h1
theorem map_set {w : World} {b o Tb m k : Nat} {c : Array Value} {fz : Nat × Nat} {v : Value} {Dm : DataW Unit} (hb : w.heap[b]? = some (Obj.cells c Tb fz)) (h : w.ownsMap Tryz.prog 9 (plainElem (H := Unit) Tryz.prog 3) m k Dm) : (w.setCell ⟨b, o, none⟩ v).heap[m]? = w.heap[m]? := by
  obtain ⟨es, cl, h1, h2⟩ := h
  rw [Below.heap_setCell]
  intro e
  have e : m = b := e
  subst e
  rw [hb] at h1; cases h1


theorem LVs.keep {w w' : World} {B : Nat} (k : Keep 3 w w') : ∀ (l : List (List UInt8 × List Nat × Nat)) (v : List Value), LVs w B l v → LVs w' B l v
  | [], [], _ => trivial
  | [], _ :: _, h => h.elim
  | _ :: _, [], h => h.elim
  | _ :: _, [_], h => h.elim
  | _ :: _, [_, _], h => h.elim
  | l :: ls, a :: b :: c :: vs, h => ⟨⟨h.1.1, ownsRow_keep k h.1.2.1, h.1.2.2⟩, LVs.keep k ls vs h.2⟩
theorem LVs.snoc {w : World} {B : Nat} : ∀ (ls : List (List UInt8 × List Nat × Nat)) (vs : List Value) (l : List UInt8 × List Nat × Nat) (a b c : Value), LVs w B ls vs → (a = strV l.1 ∧ w.ownsRow B 3 1 b l.2.1.length (l.2.1.map fun (k : Nat) => Value.int .i64 k) ∧ c = .int .i64 l.2.2) → LVs w B (ls ++ [l]) (vs ++ [a, b, c])
  | [], [], l, a, b, c, _, h => ⟨h, trivial⟩
  | [], _ :: _, _, _, _, _, h, _ => h.elim
  | _ :: _, [], _, _, _, _, h, _ => h.elim
  | _ :: _, [_], _, _, _, _, h, _ => h.elim
  | _ :: _, [_, _], _, _, _, _, h, _ => h.elim
  | l :: ls, a :: b :: c :: vs, l', a', b', c', h, h' => ⟨h.1, LVs.snoc ls vs l' a' b' c' h.2 h'⟩
theorem LVs.entry {w : World} {B : Nat} : ∀ (ls : List (List UInt8 × List Nat × Nat)) (vs : List Value) (i n : Nat), i < ls.length → LVs w B ls vs → LVs w B (ls.set i ((ls.getD i ([], [], 0)).1, (ls.getD i ([], [], 0)).2.1, n)) (vs.set (i * 3 + 2) (.int .i64 n))
  | [], _, i, n, h, _ => absurd h (by simp)
  | _ :: _, [], _, _, _, h => h.elim
  | _ :: _, [_], _, _, _, h => h.elim
  | _ :: _, [_, _], _, _, _, h => h.elim
  | l :: ls, a :: b :: c :: vs, 0, n, _, h => by
    simp only [List.set_cons_zero, List.getD_cons_zero, Nat.zero_mul, Nat.zero_add, List.set_cons_succ]
    exact ⟨⟨h.1.1, h.1.2.1, rfl⟩, h.2⟩
  | l :: ls, a :: b :: c :: vs, i + 1, n, hi, h => by
    have := LVs.entry ls vs i n (by simpa using hi) h.2
    simp only [List.set_cons_succ, List.getD_cons_succ]
    rw [show (i + 1) * 3 = (i * 3 + 2) + 1 by omega]
    simp only [List.set_cons_succ]
    exact ⟨h.1, this⟩

/-- The map of the names' places. -/
def NmMap (Dm : DataW Unit) (ns : List (List UInt8)) : Prop :=
  IsMap Dm ∧ ∀ s : List UInt8, Maps.has Dm (.string s) = ns.contains s ∧ (ns.contains s = true → Dm.atKey (.string s) (.lit (.int .i64 0)) = .lit (.int .i64 (ns.idxOf s : Nat)))

/-- A builder in block b. -/
structure BdAt (w : World) (B b : Nat) (st : BS) (u0 u1 u2 u3 : Value) (m : Nat) (u5 : Value) (x1 x3 us : List Value) : Prop where
  hb : B ≤ b
  hS : w.heap[b]? = some (Obj.cells #[u0, u1, u2, u3, .map (some m), u5] 147 (0, 0))
  r0 : w.ownsRow B 174 2 u0 st.is.length (flatI st.is)
  r1 : w.ownsRow B 81 1 u1 st.cs.length x1
  c1 : CVs w st.cs x1
  r2 : w.ownsRow B 9 1 u2 st.ns.length (st.ns.map strV)
  r3 : w.ownsRow B 213 3 u3 st.ls.length x3
  l3 : LVs w B st.ls x3
  r5 : w.ownsRow B 83 1 u5 us.length us
  e5 : EVs w (fun g => g < B) st.bs us
  hm : B ≤ m
  mp : ∃ Dm, w.ownsMap Tryz.prog 9 (plainElem (H := Unit) Tryz.prog 3) m st.ns.length Dm ∧ NmMap Dm st.ns
def Bd (w : World) (B b : Nat) (st : BS) : Prop := st.ls.length = st.bs.length ∧ ∃ u0 u1 u2 u3 m u5 x1 x3 us, BdAt w B b st u0 u1 u2 u3 m u5 x1 x3 us

/-- Where nothing that it reaches has turned. -/
theorem BdAt.keep {w w' : World} {B b m : Nat} {st : BS} {u0 u1 u2 u3 u5 : Value} {x1 x3 us : List Value} (h : BdAt w B b st u0 u1 u2 u3 m u5 x1 x3 us) (hb : Below B w w')
    (k0 : Keep 174 w w') (k1 : Keep 81 w w') (k2 : Keep 9 w w') (k3 : Keep 213 w w') (k5 : Keep 83 w w') (kb : Keep 147 w w') (ki : Keep 3 w w') (kp : Keep 205 w w') (km : w'.heap[m]? = w.heap[m]?) : BdAt w' B b st u0 u1 u2 u3 m u5 x1 x3 us := by
  obtain ⟨Dm, mp, hn⟩ := h.mp
  exact ⟨h.hb, kb _ _ h.hS, ownsRow_keep k0 h.r0, ownsRow_keep k1 h.r1, h.c1.keep kp, ownsRow_keep k2 h.r2, ownsRow_keep k3 h.r3, h.l3.keep ki, ownsRow_keep k5 h.r5, h.e5.imp kp (fun g o hg ho => ⟨by rw [hb.block g hg]; exact ho, hg⟩), h.hm, Dm, ownsMap_block mp km, hn⟩
theorem BdAt.le {w : World} {B b m : Nat} {st : BS} {u0 u1 u2 u3 u5 : Value} {x1 x3 us : List Value} (h : BdAt w B b st u0 u1 u2 u3 m u5 x1 x3 us) : B ≤ w.heap.size := Nat.le_of_lt (Nat.lt_of_le_of_lt h.hb (lt_of_some h.hS))
theorem BdAt.below {w w' : World} {B b m : Nat} {st : BS} {u0 u1 u2 u3 u5 : Value} {x1 x3 us : List Value} (h : BdAt w B b st u0 u1 u2 u3 m u5 x1 x3 us) (hb : Below w.heap.size w w') : BdAt w' B b st u0 u1 u2 u3 m u5 x1 x3 us := by
  obtain ⟨Dm, mp, hn⟩ := h.mp
  exact h.keep (hb.mono h.le) (Keep.of_below hb) (Keep.of_below hb) (Keep.of_below hb) (Keep.of_below hb) (Keep.of_below hb) (Keep.of_below hb) (Keep.of_below hb) (Keep.of_below hb) (hb.block m mp.lt)
theorem Bd.below {w w' : World} {B b : Nat} {st : BS} (h : Bd w B b st) (hb : Below w.heap.size w w') : Bd w' B b st := by
  obtain ⟨hl, u0, u1, u2, u3, m, u5, x1, x3, us, h⟩ := h
  exact ⟨hl, u0, u1, u2, u3, m, u5, x1, x3, us, h.below hb⟩
theorem Bd.le {w : World} {B b : Nat} {st : BS} (h : Bd w B b st) : B ≤ w.heap.size := by
  obtain ⟨hl, u0, u1, u2, u3, m, u5, x1, x3, us, h⟩ := h
  exact h.le

/-- The types of the builder's own blocks. -/
def BT : List TypeId := [174, 81, 9, 213, 83, 147]
/-- What has turned: nothing below B, and no block of another type than the builder's. -/
structure Chg (B : Nat) (w w' : World) : Prop where
  below : Below B w w'
  kp : ∀ T, BT.contains T = false → Keep T w w'
theorem Chg.refl (B : Nat) (w : World) : Chg B w w := ⟨Below.refl _ _, fun _ _ => Keep.refl _⟩
theorem Chg.trans {B : Nat} {a b c : World} (h : Chg B a b) (k : Chg B b c) : Chg B a c := ⟨h.below.trans k.below, fun T hT => (h.kp T hT).trans (k.kp T hT)⟩
theorem Chg.drew {B : Nat} {a b : World} (h : Chg B a b) : Chg B a b.drew := ⟨h.below.drew, h.kp⟩
theorem Chg.new {B : Nat} {w w' : World} (hB : B ≤ w.heap.size) (h : Below w.heap.size w w') : Chg B w w' := ⟨h.mono hB, fun _ _ => Keep.of_below h⟩
theorem Chg.row {B T s n : Nat} {w w1 : World} {u : Value} {xs : List Value} (hr : w.ownsRow B T s u n xs) (hT : BT.contains T = true) (hu : Upd (fun k => u.ownBlock = some k) w w1) (hB : B ≤ w.heap.size) : Chg B w w1 :=
  ⟨hu.below hB (by intro k hk; exact (ownsRow_ge hr hk).1), fun T' h' => keep_row hr hu (fun e => by rw [e, hT] at h'; cases h')⟩
theorem Chg.set {B b o T : Nat} {w w1 : World} {c : Array Value} {fz : Nat × Nat} {v : Value} (h : Chg B w w1) (hS : w1.heap[b]? = some (Obj.cells c T fz)) (hT : BT.contains T = true) (hb : B ≤ b) : Chg B w (w1.setCell ⟨b, o, none⟩ v) :=
  ⟨h.below.setCell hb _, fun T' h' => (h.kp T' h').trans (keep_set hS (fun e => by rw [e, hT] at h'; cases h'))⟩
theorem Chg.map {B m n : Nat} {w w1 : World} {Dm : DataW Unit} (hm : w.ownsMap Tryz.prog 9 (plainElem (H := Unit) Tryz.prog 3) m n Dm) (hB : B ≤ m) (hBw : B ≤ w.heap.size) (hg : w.grownBy w1 (some m)) : Chg B w w1 :=
  ⟨(Below.refl B w).grown hg hBw (fun k hk => by cases hk; exact hB), fun T _ x c hx => by
    obtain ⟨es, cl, hm1, _⟩ := hm
    rw [hg.block x (lt_of_some hx) (fun e => by cases e; rw [hm1] at hx; cases hx)]; exact hx⟩
end Go.Proofs.YtlobegpjenabaaaGreatDoor
