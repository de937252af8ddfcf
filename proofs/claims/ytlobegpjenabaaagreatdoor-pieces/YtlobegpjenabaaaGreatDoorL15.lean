/- code: put, with all that the builder holds. -/
import Derived.Test.YtlobegpjenabaaaGreatDoorL14
namespace Go.Proofs.YtlobegpjenabaaaGreatDoor
open Go.RowKit Go.Maps
set_option linter.unusedSimpArgs false
set_option linter.unusedVariables false

theorem is_Const (a : Value) (w : World) : (Instr.typeAssert (.iface 133 (.agg #[a])) 83 133 true).run Tryz.prog w = .ok (.tuple #[.agg #[a], .bool true]) w := by kernel_rfl
theorem is_Var (a : Value) (w : World) : (Instr.typeAssert (.iface 202 (.agg #[a])) 83 202 true).run Tryz.prog w = .ok (.tuple #[.agg #[a], .bool true]) w := by kernel_rfl
theorem is_Define (a b : Value) (w : World) : (Instr.typeAssert (.iface 279 (.agg #[a, b])) 83 279 true).run Tryz.prog w = .ok (.tuple #[.agg #[a, b], .bool true]) w := by kernel_rfl
theorem is_Set (a b : Value) (w : World) : (Instr.typeAssert (.iface 267 (.agg #[a, b])) 83 267 true).run Tryz.prog w = .ok (.tuple #[.agg #[a, b], .bool true]) w := by kernel_rfl
theorem is_If (a b c : Value) (w : World) : (Instr.typeAssert (.iface 261 (.agg #[a, b, c])) 83 261 true).run Tryz.prog w = .ok (.tuple #[.agg #[a, b, c], .bool true]) w := by kernel_rfl
theorem is_Seq (a : Value) (w : World) : (Instr.typeAssert (.iface 269 (.agg #[a])) 83 269 true).run Tryz.prog w = .ok (.tuple #[.agg #[a], .bool true]) w := by kernel_rfl
theorem is_Apply (a : Value) (w : World) : (Instr.typeAssert (.iface 273 (.agg #[a])) 83 273 true).run Tryz.prog w = .ok (.tuple #[.agg #[a], .bool true]) w := by kernel_rfl
theorem to_Const_Var (v : Value) (w : World) : (Instr.typeAssert (.iface 202 v) 83 133 true).run Tryz.prog w = .ok (.tuple #[.agg #[.nilIface], .bool false]) w := by kernel_rfl
theorem to_Const_Lambda (v : Value) (w : World) : (Instr.typeAssert (.iface 277 v) 83 133 true).run Tryz.prog w = .ok (.tuple #[.agg #[.nilIface], .bool false]) w := by kernel_rfl
theorem to_Const_Define (v : Value) (w : World) : (Instr.typeAssert (.iface 279 v) 83 133 true).run Tryz.prog w = .ok (.tuple #[.agg #[.nilIface], .bool false]) w := by kernel_rfl
theorem to_Const_Set (v : Value) (w : World) : (Instr.typeAssert (.iface 267 v) 83 133 true).run Tryz.prog w = .ok (.tuple #[.agg #[.nilIface], .bool false]) w := by kernel_rfl
theorem to_Const_If (v : Value) (w : World) : (Instr.typeAssert (.iface 261 v) 83 133 true).run Tryz.prog w = .ok (.tuple #[.agg #[.nilIface], .bool false]) w := by kernel_rfl
theorem to_Const_Seq (v : Value) (w : World) : (Instr.typeAssert (.iface 269 v) 83 133 true).run Tryz.prog w = .ok (.tuple #[.agg #[.nilIface], .bool false]) w := by kernel_rfl
theorem to_Const_Apply (v : Value) (w : World) : (Instr.typeAssert (.iface 273 v) 83 133 true).run Tryz.prog w = .ok (.tuple #[.agg #[.nilIface], .bool false]) w := by kernel_rfl
theorem to_Var_Lambda (v : Value) (w : World) : (Instr.typeAssert (.iface 277 v) 83 202 true).run Tryz.prog w = .ok (.tuple #[.agg #[.string ⟨#[]⟩], .bool false]) w := by kernel_rfl
theorem to_Var_Define (v : Value) (w : World) : (Instr.typeAssert (.iface 279 v) 83 202 true).run Tryz.prog w = .ok (.tuple #[.agg #[.string ⟨#[]⟩], .bool false]) w := by kernel_rfl
theorem to_Var_Set (v : Value) (w : World) : (Instr.typeAssert (.iface 267 v) 83 202 true).run Tryz.prog w = .ok (.tuple #[.agg #[.string ⟨#[]⟩], .bool false]) w := by kernel_rfl
theorem to_Var_If (v : Value) (w : World) : (Instr.typeAssert (.iface 261 v) 83 202 true).run Tryz.prog w = .ok (.tuple #[.agg #[.string ⟨#[]⟩], .bool false]) w := by kernel_rfl
theorem to_Var_Seq (v : Value) (w : World) : (Instr.typeAssert (.iface 269 v) 83 202 true).run Tryz.prog w = .ok (.tuple #[.agg #[.string ⟨#[]⟩], .bool false]) w := by kernel_rfl
theorem to_Var_Apply (v : Value) (w : World) : (Instr.typeAssert (.iface 273 v) 83 202 true).run Tryz.prog w = .ok (.tuple #[.agg #[.string ⟨#[]⟩], .bool false]) w := by kernel_rfl
theorem to_Define_Set (v : Value) (w : World) : (Instr.typeAssert (.iface 267 v) 83 279 true).run Tryz.prog w = .ok (.tuple #[.agg #[.string ⟨#[]⟩, .nilIface], .bool false]) w := by kernel_rfl
theorem to_Define_If (v : Value) (w : World) : (Instr.typeAssert (.iface 261 v) 83 279 true).run Tryz.prog w = .ok (.tuple #[.agg #[.string ⟨#[]⟩, .nilIface], .bool false]) w := by kernel_rfl
theorem to_Define_Seq (v : Value) (w : World) : (Instr.typeAssert (.iface 269 v) 83 279 true).run Tryz.prog w = .ok (.tuple #[.agg #[.string ⟨#[]⟩, .nilIface], .bool false]) w := by kernel_rfl
theorem to_Define_Apply (v : Value) (w : World) : (Instr.typeAssert (.iface 273 v) 83 279 true).run Tryz.prog w = .ok (.tuple #[.agg #[.string ⟨#[]⟩, .nilIface], .bool false]) w := by kernel_rfl
theorem to_Set_If (v : Value) (w : World) : (Instr.typeAssert (.iface 261 v) 83 267 true).run Tryz.prog w = .ok (.tuple #[.agg #[.string ⟨#[]⟩, .nilIface], .bool false]) w := by kernel_rfl
theorem to_Set_Seq (v : Value) (w : World) : (Instr.typeAssert (.iface 269 v) 83 267 true).run Tryz.prog w = .ok (.tuple #[.agg #[.string ⟨#[]⟩, .nilIface], .bool false]) w := by kernel_rfl
theorem to_Set_Apply (v : Value) (w : World) : (Instr.typeAssert (.iface 273 v) 83 267 true).run Tryz.prog w = .ok (.tuple #[.agg #[.string ⟨#[]⟩, .nilIface], .bool false]) w := by kernel_rfl
theorem to_If_Seq (v : Value) (w : World) : (Instr.typeAssert (.iface 269 v) 83 261 true).run Tryz.prog w = .ok (.tuple #[.agg #[.nilIface, .nilIface, .nilIface], .bool false]) w := by kernel_rfl
theorem to_If_Apply (v : Value) (w : World) : (Instr.typeAssert (.iface 273 v) 83 261 true).run Tryz.prog w = .ok (.tuple #[.agg #[.nilIface, .nilIface, .nilIface], .bool false]) w := by kernel_rfl
theorem to_Seq_Apply (v : Value) (w : World) : (Instr.typeAssert (.iface 273 v) 83 269 true).run Tryz.prog w = .ok (.tuple #[.agg #[.slice none 0 0], .bool false]) w := by kernel_rfl


theorem size_emit (st : BS) (op n : Int) : (emitS st op n).size = st.size + 1 := by simp [emitS, BS.size]; omega
theorem size_const (st : BS) (c : Option D) : (constS st c).size = st.size + 1 := by simp [constS, BS.size]; omega
theorem size_name (st : BS) (s : List UInt8) : (nameS st s).size ≤ st.size + 1 := by
  simp only [nameS, BS.size]
  split <;> simp <;> omega
theorem size_lam (st : BS) (nm : List UInt8) (xs : List (List UInt8)) (a : E) : (lamBS st nm xs a).size ≤ st.size + xs.length + 1 := by
  obtain ⟨h1, h2, h3, h4, h5⟩ := namesS_same xs st
  simp only [lamBS, BS.size, h1, h2, List.length_append, List.length_cons, List.length_nil]
  omega
theorem lenB (z : ByteArray) : z.data.toList.length = z.size := Array.length_toList

set_option maxRecDepth 100000 in
set_option maxHeartbeats 2000000 in
theorem put_const (d : D) (t : TypeId) (x : Value) (w : World) (B b : Nat) (st : BS) (last : Bool) (hd : ∃ n, IV w n (.iface t x) d) (h : Bd w B b st) (hK : st.pot + 8 ≤ 1099511627776) :
    Calls Tryz.prog 97 #[.pointer (some ⟨b, 0, none⟩), .iface 133 (.agg #[(.iface t x)]), .bool last] w (NonePost w B b (endS (emitS (constS st (some d)) 1 st.cs.length) last)) := by
  have h1 := is_Const
  have hBw := h.le
  have hsz := size_pot st
  have HZA := hide (show (constS st (some d)).size ≤ 1099511627776 ∧ (emitS (constS st (some d)) 1 st.cs.length).size ≤ 1099511627776 from by rw [size_emit, size_const]; omega)
  have HW := hide (fun (W : World) (hb : Below w.heap.size w W) => And.intro (Chg.new hBw hb) (constant_go (some d) _ _ (show CV W (some d) (.iface t x) from (hd.elim fun n h => ⟨n, IV.keep (Keep.of_below hb) _ _ _ h⟩)) (h.below hb) (by omega)))
  have HAL := hide (fun o => (Below.refl w.heap.size w).alloc (Nat.le_refl _) o)
  clear h hK hsz hd
  go_enter Tryz.func97, Tryz.ntmps97
  go_wp2_with fail
  refine (HW.out _ (HAL.out _)).2.mono ?_
  rintro e wa ⟨rfl, hba, hca⟩
  have HBA := hide hba
  have HCA := hide ((HW.out _ (HAL.out _)).1.trans hca)
  clear hba hca HW
  have HE := hide (emit_go 1 st.cs.length HBA.out HZA.out.1)
  go_wp2_with fail
  refine HE.out.mono ?_
  rintro e wb ⟨rfl, hbb, hcb⟩
  have HEND := hide (end_go last hbb HZA.out.2)
  have HCB := hide (HCA.out.trans hcb)
  clear hbb hcb HE HBA
  go_wp2_with fail
  refine HEND.out.mono ?_
  rintro e wc ⟨rfl, hbc, hcc⟩
  have HF := hide (And.intro hbc (HCB.out.trans hcc))
  clear hbc hcc HEND
  go_wp2
  refine bodyPost_ret (results_none rfl _ _ _) rfl ?_
  exact ⟨rfl, HF.out.1, HF.out.2⟩
set_option maxRecDepth 100000 in
set_option maxHeartbeats 2000000 in
theorem put_nothing  (w : World) (B b : Nat) (st : BS) (last : Bool) (h : Bd w B b st) (hK : st.pot + 8 ≤ 1099511627776) :
    Calls Tryz.prog 97 #[.pointer (some ⟨b, 0, none⟩), .iface 133 (.agg #[(.iface 259 (.agg #[]))]), .bool last] w (NonePost w B b (endS (emitS (constS st none) 1 st.cs.length) last)) := by
  have h1 := is_Const
  have hBw := h.le
  have hsz := size_pot st
  have HZA := hide (show (constS st none).size ≤ 1099511627776 ∧ (emitS (constS st none) 1 st.cs.length).size ≤ 1099511627776 from by rw [size_emit, size_const]; omega)
  have HW := hide (fun (W : World) (hb : Below w.heap.size w W) => And.intro (Chg.new hBw hb) (constant_go none _ _ (show CV W none (.iface 259 (.agg #[])) from rfl) (h.below hb) (by omega)))
  have HAL := hide (fun o => (Below.refl w.heap.size w).alloc (Nat.le_refl _) o)
  clear h hK hsz
  go_enter Tryz.func97, Tryz.ntmps97
  go_wp2_with fail
  refine (HW.out _ (HAL.out _)).2.mono ?_
  rintro e wa ⟨rfl, hba, hca⟩
  have HBA := hide hba
  have HCA := hide ((HW.out _ (HAL.out _)).1.trans hca)
  clear hba hca HW
  have HE := hide (emit_go 1 st.cs.length HBA.out HZA.out.1)
  go_wp2_with fail
  refine HE.out.mono ?_
  rintro e wb ⟨rfl, hbb, hcb⟩
  have HEND := hide (end_go last hbb HZA.out.2)
  have HCB := hide (HCA.out.trans hcb)
  clear hbb hcb HE HBA
  go_wp2_with fail
  refine HEND.out.mono ?_
  rintro e wc ⟨rfl, hbc, hcc⟩
  have HF := hide (And.intro hbc (HCB.out.trans hcc))
  clear hbc hcc HEND
  go_wp2
  refine bodyPost_ret (results_none rfl _ _ _) rfl ?_
  exact ⟨rfl, HF.out.1, HF.out.2⟩
set_option maxRecDepth 100000 in
set_option maxHeartbeats 2000000 in
theorem put_var (z : ByteArray) (w : World) (B b : Nat) (st : BS) (last : Bool) (h : Bd w B b st) (hK : st.pot + 8 * (z.size + 1) ≤ 1099511627776) :
    Calls Tryz.prog 97 #[.pointer (some ⟨b, 0, none⟩), .iface 202 (.agg #[.string z]), .bool last] w (NonePost w B b (endS (emitS (nameS st z.data.toList) 2 (numS st z.data.toList)) last)) := by
  have h1 := is_Var
  have h2 := to_Const_Var
  have hBw := h.le
  have hsz := size_pot st
  have hsn := size_name st z.data.toList
  have HZA := hide (show (nameS st z.data.toList).size ≤ 1099511627776 ∧ (emitS (nameS st z.data.toList) 2 (numS st z.data.toList)).size ≤ 1099511627776 from by rw [size_emit]; omega)
  have HW := hide (fun (W : World) (hb : Below w.heap.size w W) => And.intro (Chg.new hBw hb) (name_go z (by unfold maxLen; omega) (h.below hb) (by omega)))
  have HAL := hide (fun o => (Below.refl w.heap.size w).alloc (Nat.le_refl _) o)
  clear h hK hsz hsn
  go_enter Tryz.func97, Tryz.ntmps97
  go_wp2_with fail
  refine (HW.out _ (HAL.out _)).2.mono ?_
  rintro e wa ⟨rfl, hba, hca⟩
  have HBA := hide hba
  have HCA := hide ((HW.out _ (HAL.out _)).1.trans hca)
  clear hba hca HW
  have HE := hide (emit_go 2 (numS st z.data.toList) HBA.out HZA.out.1)
  go_wp2_with fail
  refine HE.out.mono ?_
  rintro e wb ⟨rfl, hbb, hcb⟩
  have HEND := hide (end_go last hbb HZA.out.2)
  have HCB := hide (HCA.out.trans hcb)
  clear hbb hcb HE HBA
  go_wp2_with fail
  refine HEND.out.mono ?_
  rintro e wc ⟨rfl, hbc, hcc⟩
  have HF := hide (And.intro hbc (HCB.out.trans hcc))
  clear hbc hcc HEND
  go_wp2
  refine bodyPost_ret (results_none rfl _ _ _) rfl ?_
  exact ⟨rfl, HF.out.1, HF.out.2⟩
set_option maxRecDepth 100000 in
set_option maxHeartbeats 2000000 in
theorem put_lambda (nm : ByteArray) (u : Value) (zs : List ByteArray) (a : Value) (k : E) (w : World) (B b : Nat) (st : BS) (last : Bool) (hr : RowN w (fun g => g < B) u zs) (ha : EV w (fun g => g < B) k a) (h : Bd w B b st) (hK : st.pot + 8 * wtE (.lambda nm.data.toList (bytesOf zs) k) ≤ 1099511627776) :
    Calls Tryz.prog 97 #[.pointer (some ⟨b, 0, none⟩), .iface 277 (.agg #[.string nm, u, a]), .bool last] w (NonePost w B b (endS (emitS (lamBS st nm.data.toList (bytesOf zs) k) 3 st.bs.length) last)) := by
  have h1 := as_lam
  have h2 := to_Const_Lambda
  have h3 := to_Var_Lambda
  have hBw := h.le
  have hsz := size_pot st
  have hsl := size_lam st nm.data.toList (bytesOf zs) k
  have hbl : (bytesOf zs).length = zs.length := by simp [bytesOf]
  have hnw := names_wt (bytesOf zs)
  have hzs : ∀ z ∈ zs, z.size + 1 ≤ ((bytesOf zs).map (fun s => s.length + 1)).sum := fun z hz => by
    have : ∀ (l : List ByteArray), z ∈ l → z.size + 1 ≤ ((bytesOf l).map (fun s => s.length + 1)).sum := by
      intro l
      induction l with
      | nil => intro h; cases h
      | cons y r ih =>
        intro h
        rcases List.mem_cons.1 h with rfl | h
        · simp only [bytesOf, List.map_cons, List.sum_cons, lenB]; omega
        · have := ih h; simp only [bytesOf, List.map_cons, List.sum_cons] at *; omega
    exact this zs hz
  simp only [wtE] at hK
  have HZA := hide (show (lamBS st nm.data.toList (bytesOf zs) k).size ≤ 1099511627776 ∧ (emitS (lamBS st nm.data.toList (bytesOf zs) k) 3 st.bs.length).size ≤ 1099511627776 from by rw [size_emit]; omega)
  obtain ⟨t, x, rfl⟩ := ha.form
  obtain ⟨ad, cap, rfl, _⟩ := ownsRow_slice hr.1
  have HW := hide (fun (W : World) (hb : Below w.heap.size w W) => And.intro (Chg.new hBw hb) (lambda_loop nm _ zs k t x (hr.imp (w' := W) (P' := fun g => g < B) fun g o hg ho => ⟨by rw [hb.block g (lt_of_some ho)]; exact ho, hg⟩) (ha.chg (Chg.new hBw hb)) (h.below hb) (by omega) (fun z hz => by have := hzs z hz; unfold maxLen; omega)))
  have HAL := hide (fun o => (Below.refl w.heap.size w).alloc (Nat.le_refl _) o)
  clear h ha hr hK hsz hsl hbl hnw hzs
  go_enter Tryz.func97, Tryz.ntmps97
  go_wp2_with fail
  refine (HW.out _ (HAL.out _)).2.mono ?_
  rintro e wa ⟨rfl, hba, hca⟩
  have HBA := hide hba
  have HCA := hide ((HW.out _ (HAL.out _)).1.trans hca)
  clear hba hca HW
  have HE := hide (emit_go 3 st.bs.length HBA.out HZA.out.1)
  go_wp2_with fail
  refine HE.out.mono ?_
  rintro e wb ⟨rfl, hbb, hcb⟩
  have HEND := hide (end_go last hbb HZA.out.2)
  have HCB := hide (HCA.out.trans hcb)
  clear hbb hcb HE HBA
  go_wp2_with fail
  refine HEND.out.mono ?_
  rintro e wc ⟨rfl, hbc, hcc⟩
  have HF := hide (And.intro hbc (HCB.out.trans hcc))
  clear hbc hcc HEND
  go_wp2
  refine bodyPost_ret (results_none rfl _ _ _) rfl ?_
  exact ⟨rfl, HF.out.1, HF.out.2⟩
set_option maxRecDepth 100000 in
set_option maxHeartbeats 2000000 in
theorem put_define (N : Nat) (hp : PutC N) (z : ByteArray) (a : Value) (n : E) (w : World) (B b : Nat) (st : BS) (last : Bool) (hn : wtE n ≤ N) (ha : EV w (fun g => g < B) n a) (h : Bd w B b st) (hK : st.pot + 8 * (wtE n + z.size + 1) ≤ 1099511627776) :
    Calls Tryz.prog 97 #[.pointer (some ⟨b, 0, none⟩), .iface 279 (.agg #[.string z, a]), .bool last] w (NonePost w B b (endS (emitS (nameS (withS 4 n st) z.data.toList) 9 (numS (withS 4 n st) z.data.toList)) last)) := by
  have h1 := is_Define
  have h2 := to_Const_Define
  have h3 := to_Var_Define
  have h4 := as_lam_Define
  have hBw := h.le
  have hpw := pot_with 4 n st
  obtain ⟨s1, hs1⟩ : ∃ s1, s1 = withS 4 n st := ⟨_, rfl⟩
  rw [← hs1] at hpw
  rw [← hs1]
  have hsz := size_pot s1
  have hsn := size_name s1 z.data.toList
  have HZ1 := hide (show s1.size ≤ 1099511627776 ∧ z.size ≤ 1099511627776 from by omega)
  have HZA := hide (show (nameS s1 z.data.toList).size ≤ 1099511627776 ∧ (emitS (nameS s1 z.data.toList) 9 (numS s1 z.data.toList)).size ≤ 1099511627776 from by rw [size_emit]; omega)
  obtain ⟨t, x, rfl⟩ := ha.form
  have HW := hide (fun (W : World) (hb : Below w.heap.size w W) => And.intro (Chg.new hBw hb) (within_go N hp n 4 W (.iface t x) B b st hn (ha.chg (Chg.new hBw hb)) (h.below hb) (by omega)))
  have HS1 := hide hs1
  have HAL := hide (fun o => (Below.refl w.heap.size w).alloc (Nat.le_refl _) o)
  clear h ha hp hK hpw hsz hsn hs1
  go_enter Tryz.func97, Tryz.ntmps97
  go_wp2_with fail
  refine (HW.out _ (HAL.out _)).2.mono ?_
  rintro e wn ⟨rfl, hbn, hcn⟩
  rw [← HS1.out] at hbn
  have HCN := hide ((HW.out _ (HAL.out _)).1.trans hcn)
  have hLn := hcn.kp 279 rfl _ _ (Array.getElem?_push_size (xs := w.heap) (x := Obj.cells #[.string z, .iface t x] 279 (0, 0)))
  have l0 := cell_of_block hLn 0
  simp only [List.getElem?_toArray, List.getElem?_cons_zero] at l0
  have HN := hide (name_go z (by have := HZ1.out; unfold maxLen; omega) hbn HZ1.out.1)
  clear hcn hLn hbn HW
  go_wp2_with fail
  refine HN.out.mono ?_
  rintro e wa ⟨rfl, hba, hca⟩
  have HBA := hide hba
  have HCA := hide (HCN.out.trans hca)
  clear hba hca HN l0
  have HE := hide (emit_go 9 (numS s1 z.data.toList) HBA.out HZA.out.1)
  go_wp2_with fail
  refine HE.out.mono ?_
  rintro e wb ⟨rfl, hbb, hcb⟩
  have HEND := hide (end_go last hbb HZA.out.2)
  have HCB := hide (HCA.out.trans hcb)
  clear hbb hcb HE HBA
  go_wp2_with fail
  refine HEND.out.mono ?_
  rintro e wc ⟨rfl, hbc, hcc⟩
  have HF := hide (And.intro hbc (HCB.out.trans hcc))
  clear hbc hcc HEND
  go_wp2
  refine bodyPost_ret (results_none rfl _ _ _) rfl ?_
  exact ⟨rfl, HF.out.1, HF.out.2⟩
set_option maxRecDepth 100000 in
set_option maxHeartbeats 2000000 in
theorem put_set (N : Nat) (hp : PutC N) (z : ByteArray) (a : Value) (n : E) (w : World) (B b : Nat) (st : BS) (last : Bool) (hn : wtE n ≤ N) (ha : EV w (fun g => g < B) n a) (h : Bd w B b st) (hK : st.pot + 8 * (wtE n + z.size + 1) ≤ 1099511627776) :
    Calls Tryz.prog 97 #[.pointer (some ⟨b, 0, none⟩), .iface 267 (.agg #[.string z, a]), .bool last] w (NonePost w B b (endS (emitS (nameS (withS 4 n st) z.data.toList) 10 (numS (withS 4 n st) z.data.toList)) last)) := by
  have h1 := is_Set
  have h2 := to_Const_Set
  have h3 := to_Var_Set
  have h4 := as_lam_Set
  have h5 := to_Define_Set
  have hBw := h.le
  have hpw := pot_with 4 n st
  obtain ⟨s1, hs1⟩ : ∃ s1, s1 = withS 4 n st := ⟨_, rfl⟩
  rw [← hs1] at hpw
  rw [← hs1]
  have hsz := size_pot s1
  have hsn := size_name s1 z.data.toList
  have HZ1 := hide (show s1.size ≤ 1099511627776 ∧ z.size ≤ 1099511627776 from by omega)
  have HZA := hide (show (nameS s1 z.data.toList).size ≤ 1099511627776 ∧ (emitS (nameS s1 z.data.toList) 10 (numS s1 z.data.toList)).size ≤ 1099511627776 from by rw [size_emit]; omega)
  obtain ⟨t, x, rfl⟩ := ha.form
  have HW := hide (fun (W : World) (hb : Below w.heap.size w W) => And.intro (Chg.new hBw hb) (within_go N hp n 4 W (.iface t x) B b st hn (ha.chg (Chg.new hBw hb)) (h.below hb) (by omega)))
  have HS1 := hide hs1
  have HAL := hide (fun o => (Below.refl w.heap.size w).alloc (Nat.le_refl _) o)
  clear h ha hp hK hpw hsz hsn hs1
  go_enter Tryz.func97, Tryz.ntmps97
  go_wp2_with fail
  refine (HW.out _ (HAL.out _)).2.mono ?_
  rintro e wn ⟨rfl, hbn, hcn⟩
  rw [← HS1.out] at hbn
  have HCN := hide ((HW.out _ (HAL.out _)).1.trans hcn)
  have hLn := hcn.kp 267 rfl _ _ (Array.getElem?_push_size (xs := w.heap) (x := Obj.cells #[.string z, .iface t x] 267 (0, 0)))
  have l0 := cell_of_block hLn 0
  simp only [List.getElem?_toArray, List.getElem?_cons_zero] at l0
  have HN := hide (name_go z (by have := HZ1.out; unfold maxLen; omega) hbn HZ1.out.1)
  clear hcn hLn hbn HW
  go_wp2_with fail
  refine HN.out.mono ?_
  rintro e wa ⟨rfl, hba, hca⟩
  have HBA := hide hba
  have HCA := hide (HCN.out.trans hca)
  clear hba hca HN l0
  have HE := hide (emit_go 10 (numS s1 z.data.toList) HBA.out HZA.out.1)
  go_wp2_with fail
  refine HE.out.mono ?_
  rintro e wb ⟨rfl, hbb, hcb⟩
  have HEND := hide (end_go last hbb HZA.out.2)
  have HCB := hide (HCA.out.trans hcb)
  clear hbb hcb HE HBA
  go_wp2_with fail
  refine HEND.out.mono ?_
  rintro e wc ⟨rfl, hbc, hcc⟩
  have HF := hide (And.intro hbc (HCB.out.trans hcc))
  clear hbc hcc HEND
  go_wp2
  refine bodyPost_ret (results_none rfl _ _ _) rfl ?_
  exact ⟨rfl, HF.out.1, HF.out.2⟩
end Go.Proofs.YtlobegpjenabaaaGreatDoor

/- code: put of any expression, form; with all that the builder holds. -/
namespace Go.Proofs.YtlobegpjenabaaaGreatDoor
open Go.RowKit Go.Maps
set_option linter.unusedSimpArgs false
set_option linter.unusedVariables false

set_option maxRecDepth 100000 in
set_option maxHeartbeats 2000000 in
theorem put_if (N : Nat) (hp : PutC N) (n1 n2 n3 : E) (w : World) (v1 v2 v3 : Value) (B b : Nat) (st : BS) (last : Bool) (hn : wtE n1 + wtE n2 + wtE n3 ≤ N) (e1 : EV w (fun g => g < B) n1 v1) (e2 : EV w (fun g => g < B) n2 v2) (e3 : EV w (fun g => g < B) n3 v3) (h : Bd w B b st) (hK : st.pot + 8 * (wtE n1 + wtE n2 + wtE n3 + 1) ≤ 1099511627776) :
    Calls Tryz.prog 97 #[.pointer (some ⟨b, 0, none⟩), .iface 261 (.agg #[v1, v2, v3]), .bool last] w (NonePost w B b (putS (.ite n1 n2 n3) last st)) := by
  have h1 := is_If
  have h2 := to_Const_If
  have h3 := to_Var_If
  have h4 := as_lam_If
  have h5 := to_Define_If
  have h6 := to_Set_If
  have hBw := h.le
  have HW := hide (fun (W : World) (hb : Below w.heap.size w W) => And.intro (Chg.new hBw hb) (choice_code N hp n1 n2 n3 last W v1 v2 v3 B b st hn (e1.chg (Chg.new hBw hb)) (e2.chg (Chg.new hBw hb)) (e3.chg (Chg.new hBw hb)) (h.below hb) hK))
  have HAL := hide (fun o => (Below.refl w.heap.size w).alloc (Nat.le_refl _) o)
  obtain ⟨t1, x1, rfl⟩ := e1.form
  obtain ⟨t2, x2, rfl⟩ := e2.form
  obtain ⟨t3, x3, rfl⟩ := e3.form
  obtain ⟨s1, hs1⟩ : ∃ s1, s1 = putS (.ite n1 n2 n3) last st := ⟨_, rfl⟩
  rw [← hs1] at HW
  rw [← hs1]
  clear h e1 e2 e3 hp hK hn hs1
  go_enter Tryz.func97, Tryz.ntmps97
  go_wp2_with fail
  refine (HW.out _ (HAL.out _)).2.mono ?_
  rintro e wa ⟨rfl, hfa, hca⟩
  have HF := hide (show NonePost w B b s1 (.returned (.tuple #[])) wa from ⟨rfl, hfa, (HW.out _ (HAL.out _)).1.trans hca⟩)
  clear hfa hca HW
  go_wp2
  refine bodyPost_ret (results_none rfl _ _ _) rfl ?_
  exact HF.out

set_option maxRecDepth 100000 in
set_option maxHeartbeats 2000000 in
theorem put_Seq (N : Nat) (hp : PutC N) (ks : List E) (w : World) (u : Value) (es : List Value) (B b : Nat) (st : BS) (last : Bool) (hn : wtEs ks ≤ N) (hr : RowE w (fun g => g < B) u es) (he : EVs w (fun g => g < B) ks es) (hl : 1 ≤ ks.length) (h : Bd w B b st) (hK : st.pot + 8 * (wtEs ks + 1) ≤ 1099511627776) :
    Calls Tryz.prog 97 #[.pointer (some ⟨b, 0, none⟩), .iface 269 (.agg #[u]), .bool last] w (NonePost w B b (putS (.seq ks) last st)) := by
  have h1 := is_Seq
  have h2 := to_Const_Seq
  have h3 := to_Var_Seq
  have h4 := as_lam_Seq
  have h5 := to_Define_Seq
  have h6 := to_Set_Seq
  have h7 := to_If_Seq
  have h8 := to_Seq_Apply
  have hBw := h.le
  have HW := hide (fun (W : World) (hb : Below w.heap.size w W) => And.intro (Chg.new hBw hb) (show Calls Tryz.prog 157 _ W (NonePost W B b (putS (.seq ks) last st)) from by
    have hr' : RowE W (fun g => g < B) u es := hr.imp fun g o hg ho => ⟨by rw [hb.block g (lt_of_some ho)]; exact ho, hg⟩
    first | exact sequence_code N hp ks W u es B b st last hn hr' (he.chg (Chg.new hBw hb)) (h.below hb) hK hl | exact application_code N hp ks last W u es B b st hn hr' (he.chg (Chg.new hBw hb)) (h.below hb) hK))
  have HAL := hide (fun o => (Below.refl w.heap.size w).alloc (Nat.le_refl _) o)
  obtain ⟨a, cap, rfl, _⟩ := ownsRow_slice hr.1
  obtain ⟨s1, hs1⟩ : ∃ s1, s1 = putS (.seq ks) last st := ⟨_, rfl⟩
  rw [← hs1] at HW
  rw [← hs1]
  clear h hr he hp hl hK hn hs1
  go_enter Tryz.func97, Tryz.ntmps97
  go_wp2_with fail
  refine (HW.out _ (HAL.out _)).2.mono ?_
  rintro e wa ⟨rfl, hfa, hca⟩
  have HF := hide (show NonePost w B b s1 (.returned (.tuple #[])) wa from ⟨rfl, hfa, (HW.out _ (HAL.out _)).1.trans hca⟩)
  clear hfa hca HW
  go_wp2
  refine bodyPost_ret (results_none rfl _ _ _) rfl ?_
  exact HF.out
set_option maxRecDepth 100000 in
set_option maxHeartbeats 2000000 in
theorem put_Apply (N : Nat) (hp : PutC N) (ks : List E) (w : World) (u : Value) (es : List Value) (B b : Nat) (st : BS) (last : Bool) (hn : wtEs ks ≤ N) (hr : RowE w (fun g => g < B) u es) (he : EVs w (fun g => g < B) ks es) (hl : 1 ≤ ks.length) (h : Bd w B b st) (hK : st.pot + 8 * (wtEs ks + 1) ≤ 1099511627776) :
    Calls Tryz.prog 97 #[.pointer (some ⟨b, 0, none⟩), .iface 273 (.agg #[u]), .bool last] w (NonePost w B b (putS (.apply ks) last st)) := by
  have h1 := is_Apply
  have h2 := to_Const_Apply
  have h3 := to_Var_Apply
  have h4 := as_lam_Apply
  have h5 := to_Define_Apply
  have h6 := to_Set_Apply
  have h7 := to_If_Apply
  have h8 := to_Seq_Apply
  have hBw := h.le
  have HW := hide (fun (W : World) (hb : Below w.heap.size w W) => And.intro (Chg.new hBw hb) (show Calls Tryz.prog 158 _ W (NonePost W B b (putS (.apply ks) last st)) from by
    have hr' : RowE W (fun g => g < B) u es := hr.imp fun g o hg ho => ⟨by rw [hb.block g (lt_of_some ho)]; exact ho, hg⟩
    first | exact sequence_code N hp ks W u es B b st last hn hr' (he.chg (Chg.new hBw hb)) (h.below hb) hK hl | exact application_code N hp ks last W u es B b st hn hr' (he.chg (Chg.new hBw hb)) (h.below hb) hK))
  have HAL := hide (fun o => (Below.refl w.heap.size w).alloc (Nat.le_refl _) o)
  obtain ⟨a, cap, rfl, _⟩ := ownsRow_slice hr.1
  obtain ⟨s1, hs1⟩ : ∃ s1, s1 = putS (.apply ks) last st := ⟨_, rfl⟩
  rw [← hs1] at HW
  rw [← hs1]
  clear h hr he hp hl hK hn hs1
  go_enter Tryz.func97, Tryz.ntmps97
  go_wp2_with fail
  refine (HW.out _ (HAL.out _)).2.mono ?_
  rintro e wa ⟨rfl, hfa, hca⟩
  have HF := hide (show NonePost w B b s1 (.returned (.tuple #[])) wa from ⟨rfl, hfa, (HW.out _ (HAL.out _)).1.trans hca⟩)
  clear hfa hca HW
  go_wp2
  refine bodyPost_ret (results_none rfl _ _ _) rfl ?_
  exact HF.out

/-- put, of any expression. -/
theorem put_any : ∀ N, PutC N
  | 0 => fun n w v B b st last hn hv h hK => absurd (wtE_pos n) (by omega)
  | N + 1 => fun n w v B b st last hn hv h hK => by
    have ih := put_any N
    cases hv with
    | const n t x d hd => exact put_const d t x w B b st last ⟨n, hd⟩ h (by simp only [wtE] at hK; omega)
    | nothing => exact put_nothing w B b st last h (by simp only [wtE] at hK; omega)
    | var s => exact put_var s w B b st last h (by simp only [wtE, lenB] at hK; exact hK)
    | ite a b' c => exact put_if N ih _ _ _ w _ _ _ B b st last (by simp only [wtE] at hn; omega) a b' c h (by simp only [wtE] at hK; exact hK)
    | define s a => exact put_define N ih s _ _ w B b st last (by simp only [wtE] at hn; omega) a h (by simp only [wtE, lenB] at hK; exact hK)
    | set s a => exact put_set N ih s _ _ w B b st last (by simp only [wtE] at hn; omega) a h (by simp only [wtE, lenB] at hK; exact hK)
    | lambda nm r a => exact put_lambda nm _ _ _ _ w B b st last r a h hK
    | seq r hl a => exact put_Seq N ih _ w _ _ B b st last (by simp only [wtE] at hn; omega) r a (by rw [a.length]; omega) h (by simp only [wtE] at hK; exact hK)
    | apply r hl a => exact put_Apply N ih _ w _ _ B b st last (by simp only [wtE] at hn; omega) r a (by rw [a.length]; omega) h (by simp only [wtE] at hK; exact hK)

theorem pot_form (e : E) (st : BS) : (formS e st).pot ≤ st.pot + 8 * wtE e := by
  have := pot_put e true (emitS st 0 0); rw [pot_emit] at this; unfold formS; rw [pot_point]; omega

set_option maxHeartbeats 2000000 in
theorem form_go (n : E) (w : World) (v : Value) (B b : Nat) (st : BS) (hv : EV w (fun g => g < B) n v) (h : Bd w B b st) (hK : st.pot + 8 * wtE n + 1 ≤ 1099511627776) :
    Calls Tryz.prog 58 #[.pointer (some ⟨b, 0, none⟩), v] w (NonePost w B b (formS n st)) := by
  have hsp := size_pot st
  have HE := hide (emit_go 0 0 h (by omega))
  have HP := hide (fun (w1 : World) (hc : Chg B w w1) (h1 : Bd w1 B b (emitS st 0 0)) => put_any (wtE n) n w1 v B b (emitS st 0 0) true (Nat.le_refl _) (hv.chg hc) h1 (by rw [pot_emit]; omega))
  have HIS := hide (show st.is.length < (putS n true (emitS st 0 0)).is.length from by have := is_put n true (emitS st 0 0); simp [emitS] at this ⊢; omega)
  have HSZ := hide (show (putS n true (emitS st 0 0)).size ≤ 1099511627776 from by have h1 := pot_put n true (emitS st 0 0); have h2 := size_pot (putS n true (emitS st 0 0)); rw [pot_emit] at h1; omega)
  obtain ⟨t, x, rfl⟩ := hv.form
  have HWS := hide (show formS n st = pointS (putS n true (emitS st 0 0)) st.is.length from rfl)
  rw [HWS.out]
  obtain ⟨st1, hst1⟩ : ∃ st1, st1 = putS n true (emitS st 0 0) := ⟨_, rfl⟩
  rw [← hst1] at HP HIS HSZ
  rw [← hst1]
  clear hv h hst1 HWS hK hsp
  go_enter Tryz.func58, Tryz.ntmps58
  go_wp2_with fail
  refine HE.out.mono ?_
  rintro e w1 ⟨rfl, hb1, hc1⟩
  have HB1 := hide hb1
  have HC1 := hide hc1
  clear hb1 hc1 HE
  go_wp2_with fail
  refine (HP.out _ HC1.out HB1.out).mono ?_
  rintro e w2 ⟨rfl, hb2, hc2⟩
  have HC2 := hide (HC1.out.trans hc2)
  have HPH := hide (pointHere_go st.is.length HIS.out hb2 HSZ.out)
  clear hc2 HP hb2
  go_wp2_with fail
  refine HPH.out.mono ?_
  rintro e w3 ⟨rfl, hb3, hc3⟩
  have HF := hide (show NonePost w B b (pointS st1 st.is.length) (.returned (.tuple #[])) w3 from ⟨rfl, hb3, HC2.out.trans hc3⟩)
  clear hb3 hc3 HPH
  go_wp2
  refine bodyPost_ret (results_none rfl _ _ _) rfl ?_
  exact HF.out
end Go.Proofs.YtlobegpjenabaaaGreatDoor
