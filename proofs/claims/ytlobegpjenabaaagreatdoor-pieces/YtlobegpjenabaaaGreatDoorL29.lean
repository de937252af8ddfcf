/- goOn: the loop. -/
import Derived.Test.YtlobegpjenabaaaGreatDoorL24
import Derived.Test.YtlobegpjenabaaaGreatDoorL28
namespace Go.Proofs.YtlobegpjenabaaaGreatDoor
open Go.RowKit
set_option linter.unusedSimpArgs false
set_option linter.unusedVariables false

theorem flatI_get : ∀ (l : List (Int × Int)) (i : Nat) (p : Int × Int), l[i]? = some p → (flatI l)[i * 2]? = some (.int .i64 p.1) ∧ (flatI l)[i * 2 + 1]? = some (.int .i64 p.2)
  | [], i, p, h => by simp at h
  | q :: r, 0, p, h => by simp at h; subst h; exact ⟨rfl, rfl⟩
  | q :: r, i + 1, p, h => by
    have := flatI_get r i p (by simpa using h)
    rw [show (i + 1) * 2 = i * 2 + 2 by omega, show i * 2 + 2 + 1 = (i * 2 + 1) + 2 by omega]
    exact this
/-- Any instruction, by its method. -/
theorem step_call (hD : DispC) {B K : Nat} {w : World} {X : Nat → Prop} {ow mo mf : Nat → Option Nat} {M b : Nat} {C : Cd} {s : MS} {val app args out : Value} {top : Option Addr} {gf : Nat} (h : RS B K w X ow mo mf M b C s val app args out top gf) (hM : w.heap[M]? = some (Obj.cells (mcC b s.pc val (ptrV gf) app args (.pointer top) out 0 0 0 ⟨#[]⟩) 119 (0, 0))) (op : Nat) (n : Int) (hn0 : 0 ≤ n) (hpc : 0 < s.pc ∧ s.pc < 10000000) (hop : op < 15) (hn : opS C s op n ≠ .bad) : Calls Tryz.prog (kindF.getD op 0) #[.pointer (some ⟨M, 0, none⟩), .int .i64 n] w (StepPost B K X ow w M b C (opS C s op n)) := by
  match op, hop, hn with
  | 0, _, _ => exact form_step h hM n
  | 1, _, hn => exact const_step h hM n hn0 hn
  | 2, _, hn => exact load_step h hM n hn
  | 3, _, hn => exact lambda_step h hM n hn0 hn
  | 4, _, hn => exact pend_step h hM n hn
  | 5, _, hn => exact join_step h hM n hn
  | 6, _, hn => exact next_step h hM n hn
  | 7, _, hn => exact drop_step h hM n hn
  | 8, _, hn => exact branch_step h hM n hn
  | 9, _, hn => exact define_step h hM n hn
  | 10, _, hn => exact set_step h hM n hn
  | 11, _, hn => exact ready_step h hM n hn
  | 12, _, hn => exact apply_step hD h hM n hpc hn
  | 13, _, hn => exact back_step h hM n hn
  | 14, _, _ => exact halt_step h hM n
  | op + 15, hop, _ => exact absurd hop (by omega)
theorem opS_bad (C : Cd) (s : MS) (op n : Int) (h : opS C s op n ≠ .bad) : ∃ k : Nat, k < 15 ∧ op = k := by
  by_cases h0 : 0 ≤ op ∧ op < 15
  · exact ⟨op.toNat, by omega, by omega⟩
  · exfalso
    apply h
    unfold opS
    split <;> first | omega | rfl
theorem neq_nil (t : TypeId) (x : Value) (w : World) : (Go.binOp .neq 103 (.iface t x) .nilIface).run Tryz.prog w = .ok (.bool true) w := by kernel_rfl
theorem ErrV.form {er : Int} : ∀ {k : Nat} {v : Value}, ErrV er k v → ∃ t x, v = .iface t x
  | 0, v, h => ⟨_, _, h⟩
  | k + 1, v, ⟨z, u, h, _⟩ => ⟨_, _, h⟩
/-- Blocks that no machine writes into last. -/
theorem RS.lasts {B K : Nat} {w : World} {X : Nat → Prop} {ow mo mf : Nat → Option Nat} {M b : Nat} {C : Cd} {s : MS} {val app args out : Value} {top : Option Addr} {gf : Nat} (h : RS B K w X ow mo mf M b C s val app args out top gf) {w' : World} {X' : Nat → Prop} {ow' : Nat → Option Nat} (hG : Gw X ow w X' ow' w') (k : Nat) (c : Array Value) (T : TypeId) (hk : w.heap[k]? = some (Obj.cells c T (0, 0))) (hT : MT.contains T = false) : w'.heap[k]? = some (Obj.cells c T (0, 0)) := by
  rw [hG.upd.block k (lt_of_some hk) (fun ho => ?_)]
  · exact hk
  · cases e : ow k with
    | none => exact ho e
    | some t =>
      obtain ⟨_, c', T', h1, h2⟩ := h.xty k (h.owx _ _ e)
      rw [hk] at h1
      cases h1
      rw [hT] at h2; cases h2
/-- The frame that a machine stands in has a name. -/
theorem MR.frame {B K : Nat} {w : World} {X : Nat → Prop} {ow : Nat → Option Nat} {M b : Nat} {C : Cd} {s : MS} (h : MR B K w X ow M b C s) : ∃ g z, w.cell? ⟨M, 3, none⟩ = some (.pointer (some ⟨g, 0, none⟩)) ∧ w.cell? ⟨g, 0, none⟩ = some (.string z) := by
  obtain ⟨mo, mf, val, app, args, out, top, gf, hM, hRS⟩ := h
  obtain ⟨fr, hfr⟩ : ∃ fr, s.frs[s.fr]? = some fr := ⟨s.frs[s.fr]'(hRS.fdm _ _ hRS.fr), by simp [hRS.fdm _ _ hRS.fr]⟩
  obtain ⟨g, pn, nv, vv, op, xs, h1, h2⟩ := hRS.frs _ _ hfr
  rw [hRS.fr] at h1
  cases h1
  exact ⟨gf, pn, (mc_cell hM).2.2.2.1, by rw [cell_of_block h2.hS]; rfl⟩
/-- What a run comes to, in memory. -/
def RunR (B K : Nat) (X : Nat → Prop) (ow : Nat → Option Nat) (w : World) (M b : Nat) (C : Cd) (ev : Value) (w' : World) : RR → Prop
  | .run s' => ev = .nilIface ∧ ∃ X' ow', MR B K w' X' ow' M b C s' ∧ Gw X ow w X' ow' w'
  | .done t o => ev = .nilIface ∧ ∃ X' ow', ME B w' X' ow' M b 1 0 0 t o ∧ Gw X ow w X' ow' w'
  | .err er d o => (∃ k, k ≤ 2 ∧ ErrV er k ev) ∧ ∃ X' ow' s', MR B K w' X' ow' M b C s' ∧ Gw X ow w X' ow' w' ∧ s'.st.length = d + 1 ∧ s'.out = o
def GoPost (B K : Nat) (X : Nat → Prop) (ow : Nat → Option Nat) (w : World) (M b : Nat) (C : Cd) (r : Nat × RR) (e : Ending) (w' : World) : Prop :=
  ∃ ev, e = .returned (.tuple #[.int .i64 (r.1 : Nat), ev]) ∧ RunR B K X ow w M b C ev w' r.2
/-- In the midst of goOn. -/
def GoRel (B K : Nat) (X : Nat → Prop) (ow : Nat → Option Nat) (w : World) (M b : Nat) (C : Cd) (n : Nat) (r : Nat × RR) (Tb : Nat) (k : Nat) (v : Value) (wr : World) : Prop :=
  ∃ m : Nat, v = .int .i64 m ∧ m ≤ n ∧ wr.heap[Tb]? = some (Obj.cells kindA 171 (0, 0)) ∧ ∃ X' ow', Gw X ow w X' ow' wr ∧
    ((∃ s, MR B K wr X' ow' M b C s ∧ goS C k s n m = some r) ∨ (∃ t o, ME B wr X' ow' M b 1 0 0 t o ∧ r = (m, .done t o)))
theorem least_ex {P : Nat → Prop} (h : ∃ k, P k) : ∃ k, P k ∧ ∀ j, P j → k ≤ j := by
  obtain ⟨k, hk⟩ := h
  induction k using Nat.strongRecOn with
  | _ k ih =>
    by_cases hj : ∃ j, j < k ∧ P j
    · obtain ⟨j, hlt, hp⟩ := hj; exact ih j hlt hp
    · exact ⟨k, hk, fun j hp => by
        rcases Nat.lt_or_ge j k with h | h
        · exact absurd ⟨j, h, hp⟩ hj
        · exact h⟩
open Classical in
/-- The least number of rounds that is enough. -/
noncomputable def leastN (P : Nat → Prop) : Nat := if h : ∃ k, P k then Classical.choose (least_ex h) else 0
theorem leastN_spec {P : Nat → Prop} (h : ∃ k, P k) : P (leastN P) ∧ ∀ j, P j → leastN P ≤ j := by
  unfold leastN
  rw [dif_pos h]
  exact Classical.choose_spec (least_ex h)

/-- A method has gone well. -/
def NextK (B K : Nat) (X : Nat → Prop) (ow : Nat → Option Nat) (w : World) (M b : Nat) (C : Cd) (n : Nat) (r : Nat × RR) (Tb g8 k' : Nat) (nn : Int) (m' kk : Nat) (w' : World) : Prop :=
  w'.heap[Tb]? = some (Obj.cells kindA 171 (0, 0)) ∧ w'.heap[g8]? = some (Obj.cells #[.int .i64 (k' : Int), .int .i64 nn] 174 (0, 0)) ∧ ∃ j, j ≤ kk ∧ GoRel B K X ow w M b C n r Tb j (.int .i64 (m' : Nat)) w'
theorem NextK.rel {B K : Nat} {X : Nat → Prop} {ow : Nat → Option Nat} {w : World} {M b : Nat} {C : Cd} {n : Nat} {r : Nat × RR} {Tb g8 k' : Nat} {nn : Int} {m' kk : Nat} {w' : World} (h : NextK B K X ow w M b C n r Tb g8 k' nn m' kk w') {mv : Int} (hm : ((m' : Nat) : Int) = mv) : ∃ k, GoRel B K X ow w M b C n r Tb k (.int .i64 mv) w' := by
  subst hm
  obtain ⟨_, _, j, _, h⟩ := h
  exact ⟨j, h⟩
theorem NextK.meas {B K : Nat} {X : Nat → Prop} {ow : Nat → Option Nat} {w : World} {M b : Nat} {C : Cd} {n : Nat} {r : Nat × RR} {Tb g8 k' : Nat} {nn : Int} {m' kk : Nat} {w' : World} (h : NextK B K X ow w M b C n r Tb g8 k' nn m' kk w') {mv : Int} (hm : ((m' : Nat) : Int) = mv) {L : Nat} (hL : L = kk + 1) : leastN (fun k => GoRel B K X ow w M b C n r Tb k (.int .i64 mv) w') < L := by
  subst hm
  obtain ⟨_, _, j, hj, h⟩ := h
  have := (leastN_spec (P := fun k => GoRel B K X ow w M b C n r Tb k (.int .i64 (m' : Nat)) w') ⟨j, h⟩).2 j h
  omega
/-- A method has failed. -/
def ErrK (B K : Nat) (X : Nat → Prop) (ow : Nat → Option Nat) (w : World) (M b : Nat) (C : Cd) (ka : Array Value) (Tb g8 k' : Nat) (nn : Int) (m' : Nat) (er : Int) (d : Nat) (o : List (List UInt8)) (v : Value) (w' : World) : Prop :=
  (∃ k, k ≤ 1 ∧ ErrV er k v) ∧ w'.heap[Tb]? = some (Obj.cells ka 171 (0, 0)) ∧ w'.heap[g8]? = some (Obj.cells #[.int .i64 (k' : Int), .int .i64 nn] 174 (0, 0)) ∧ ∃ X' ow' s', MR B K w' X' ow' M b C s' ∧ Gw X ow w X' ow' w' ∧ s'.st.length = d + 1 ∧ s'.out = o
theorem ErrK.frame {B K : Nat} {X : Nat → Prop} {ow : Nat → Option Nat} {w : World} {M b : Nat} {C : Cd} {ka : Array Value} {Tb g8 k' : Nat} {nn : Int} {m' : Nat} {er : Int} {d : Nat} {o : List (List UInt8)} {v : Value} {w' : World} (h : ErrK B K X ow w M b C ka Tb g8 k' nn m' er d o v w') : ∃ g z, w'.cell? ⟨M, 3, none⟩ = some (.pointer (some ⟨g, 0, none⟩)) ∧ w'.cell? ⟨g, 0, none⟩ = some (.string z) := by
  obtain ⟨_, _, _, X', ow', s', hMR, _⟩ := h
  exact hMR.frame
theorem ErrK.fin {B K : Nat} {X : Nat → Prop} {ow : Nat → Option Nat} {w : World} {M b : Nat} {C : Cd} {ka : Array Value} {Tb g8 k' : Nat} {nn : Int} {m' : Nat} {er : Int} {d : Nat} {o : List (List UInt8)} {v : Value} {w' : World} {z : ByteArray} (h : ErrK B K X ow w M b C ka Tb g8 k' nn m' er d o v w') (w2 : World) (hw : ∃ n, w2 = w'.drewN n) (mv : Int) (hm : mv = m') : GoPost B K X ow w M b C (m', .err er d o) (.returned (.tuple #[.int .i64 mv, .iface 178 (.agg #[.string z, v])])) w2 := by
  subst hm
  obtain ⟨n, rfl⟩ := hw
  obtain ⟨⟨k, hk, hev⟩, _, _, X', ow', s', hMR, hG, h1, h2⟩ := h
  obtain ⟨mo, mf, val, app, args, out, top, gf, hM, hRS⟩ := hMR
  have hb : Below w'.heap.size w' (w'.drewN n) := ⟨rfl, rfl, rfl, Nat.le_refl _, fun _ _ => rfl⟩
  exact ⟨_, rfl, ⟨k + 1, by omega, z, v, rfl, hev⟩, X', ow', s', ⟨mo, mf, val, app, args, out, top, gf, hM, hRS.below hM hb⟩, hG.trans ⟨Upd.of_below _ hb, fun _ _ h _ => h, fun _ _ h => h, fun _ _ h => h⟩, h1, h2⟩
set_option maxRecDepth 100000 in
set_option maxHeartbeats 40000000 in
theorem goOn_go (hD : DispC) {B K : Nat} {w : World} {X : Nat → Prop} {ow : Nat → Option Nat} {M b : Nat} {C : Cd} {s : MS} (h : MR B K w X ow M b C s) (n fuel : Nat) (hn : n ≤ 100000) (r : Nat × RR) (hr : goS C fuel s n 0 = some r) :
    Calls Tryz.prog 49 #[.pointer (some ⟨M, 0, none⟩), .int .i64 n] w (GoPost B K X ow w M b C r) := by
  have hsf : ∀ (W : World) (a : Addr) (m : Mode) (fn : Fn) (x y : Array Value), (store a (.func fn x y) m).run Tryz.prog W = stored Tryz.prog W a (.func fn x y) m := fun W a m fn x y => run_store _ _ _ _ _ rfl
  obtain ⟨W0, hW0⟩ : ∃ W0, W0 = (w.alloc (.cells kindA 171)).alloc (.cells kindA 171) := ⟨_, rfl⟩
  have hb0 : Below w.heap.size w W0 := by rw [hW0]; exact ((Below.refl _ _).alloc (Nat.le_refl _) _).alloc (by simp) _
  have hT0 : W0.heap[w.heap.size + 1]? = some (Obj.cells kindA 171 (0, 0)) := by rw [hW0, heap_alloc_at, if_pos (by simp)]
  have HS := hide (show GoRel B K X ow w M b C n r (w.heap.size + 1) fuel (.int .i64 (0 : Nat)) W0 from by
    refine ⟨0, rfl, Nat.zero_le _, hT0, X, ow, ⟨Upd.of_below _ hb0, fun _ _ h _ => h, fun _ _ h => h, fun _ _ h => h⟩, .inl ⟨s, ?_, hr⟩⟩
    obtain ⟨mo, mf, val, app, args, out, top, gf, hM, hRS⟩ := h
    exact ⟨mo, mf, val, app, args, out, top, gf, by rw [hb0.block M (lt_of_some hM)]; exact hM, hRS.below hM hb0⟩)
  have HK := hide (kinds_raw w)
  have HW := hide hW0
  clear h hr hb0 hT0
  go_enter Tryz.func49, Tryz.ntmps49
  go_wp2_with fail
  refine HK.out.mono ?_
  rintro e w1 ⟨rfl, rfl⟩
  unfold kindA kindF
  go_wp2
  have hW1 := HW.out
  simp only [kindA, kindF, List.map_cons, List.map_nil] at hW1
  rw [← hW1]
  clear hW1 HW hW0 HK hsf
  go_loopw [7] (fun v wr => ∃ k, GoRel B K X ow w M b C n r (w.heap.size + 1) k v wr) (fun v wr => leastN (fun k => GoRel B K X ow w M b C n r (w.heap.size + 1) k v wr))
  case atStart => exact ⟨_, HS.out⟩
  case round =>
    clear HS
    obtain ⟨hmin, hmin2⟩ := leastN_spec hrel
    obtain ⟨k0, hk0⟩ : ∃ k0, leastN (fun k => GoRel B K X ow w M b C n r (w.heap.size + 1) k u7 wr) = k0 := ⟨_, rfl⟩
    rw [hk0] at hmin
    have HK0 := hide hk0
    clear hrel hmin2 hk0
    obtain ⟨m, rfl, hmn, hTb, X', ow', hG, hcase⟩ := hmin
    rcases hcase with ⟨s1, hMR, hgo⟩ | ⟨t, o, hME, hr⟩
    · obtain ⟨mo, mf, val, app, args, out, top, gf, hM, hRS⟩ := hMR
      obtain ⟨c0, c1, c2, c3, c4, c5, c6, c7, c8, c9, c10, c11⟩ := mc_cell hM
      cases k0 with
      | zero => cases hgo
      | succ k =>
        obtain ⟨op, nn, p, hp, hfe, hgo⟩ : ∃ op nn, ∃ p : Nat, s1.pc = p ∧ C.is[p]? = some (op, nn) ∧ (if op = 12 ∧ m = n then some (m, RR.run s1) else (match stepS C s1 with
          | .ok s' => goS C k s' n (if op = 12 then m + 1 else m)
          | .err e d o => some (if op = 12 then m + 1 else m, .err e d o)
          | .done t o => some (if op = 12 then m + 1 else m, .done t o)
          | .bad => none)) = some r := by
          rw [goS] at hgo
          unfold fetchS at hgo
          by_cases h0 : 0 ≤ s1.pc
          · rw [if_pos h0] at hgo
            cases hf : C.is[s1.pc.toNat]? with
            | none => rw [hf] at hgo; cases hgo
            | some p =>
              rw [hf] at hgo
              exact ⟨p.1, p.2, s1.pc.toNat, by omega, hf, hgo⟩
          · rw [if_neg h0] at hgo; cases hgo
        obtain ⟨cc, v0, v1, v2, v3, y1, y3, hcd⟩ := hRS.code
        have hpl : p < C.is.length := (List.getElem?_eq_some_iff.1 hfe).1
        obtain ⟨gi, icap, hv0, _, hgil, hil, _, hicell⟩ := ownsRow_cell hcd.r0.1 (by omega)
        subst hv0
        have d0 : wr.cell? ⟨b, 0, none⟩ = some (.slice (some ⟨gi, 0, none⟩) C.is.length icap) := by rw [cell_of_block hcd.hS]; exact hcd.c0
        have i0 := hicell _ _ (flatI_get _ _ _ hfe).1
        have i1 := hicell _ _ (flatI_get _ _ _ hfe).2
        have hli := hcd.li
        have hbl := lt_of_some hcd.hS
        have hMl := lt_of_some hM
        have f1 := frozen_of_block hM 1
        simp only [] at i0 i1
        unfold ptrV at c0
        rw [hp] at c1
        have i2 : (p : Int) < (C.is.length : Int) := by omega
        have HRS := hide hRS
        have HM := hide hM
        have HG := hide hG
        have HGO := hide hgo
        have HTB := hide hTb
        have HFE := hide hfe
        have HP := hide hp
        have HR := hide (running_raw wr M 0 c8)
        clear hRS hM hG hgo hTb hfe hp hcd hicell c2 c3 c4 c5 c6 c7 c8 c9 c10 c11
        go_wp2_with fail
        refine HR.out.mono ?_
        rintro e wx ⟨rfl, hwx⟩
        obtain rfl : wr = wx := hwx.symm
        go_wp2
        go_region
        have HWW := hide (show Below wr.heap.size wr (wr.alloc (.cells #[.int .i64 op, .int .i64 nn] 174)).drew from ((Below.refl _ _).alloc (Nat.le_refl _) _).drew)
        by_cases hbr : op = 12 ∧ m = n
        · obtain ⟨rfl, rfl⟩ := hbr
          have HF : Hid (GoPost B K X ow w M b C r (.returned (.tuple #[.int .i64 (m : Nat), .nilIface])) (wr.alloc (.cells #[.int .i64 12, .int .i64 nn] 174)).drew) := by
            have hgo := HGO.out
            rw [if_pos ⟨rfl, rfl⟩] at hgo
            cases hgo
            refine ⟨_, rfl, rfl, X', ow', ⟨mo, mf, val, app, args, out, top, gf, by rw [HWW.out.block M hMl]; exact HM.out, HRS.out.below HM.out HWW.out⟩, HG.out.trans ⟨Upd.of_below _ HWW.out, fun _ _ h _ => h, fun _ _ h => h, fun _ _ h => h⟩⟩
          go_wp2
          go_ret2
          exact HF.out
        · have hgo := HGO.out
          rw [if_neg hbr] at hgo
          obtain ⟨s2, hs2⟩ : ∃ s2 : MS, s2 = { s1 with pc := s1.pc + 1 } := ⟨_, rfl⟩
          have hst : stepS C s1 = if 0 ≤ nn then opS C s2 op nn else .bad := by
            unfold stepS fetchS
            rw [if_pos (by rw [HP.out]; omega), HP.out, Int.toNat_natCast, HFE.out, hs2, HP.out]
          by_cases hnn : 0 ≤ nn
          · rw [hst, if_pos hnn] at hgo
            have hne : opS C s2 op nn ≠ .bad := fun e => by rw [e] at hgo; cases hgo
            obtain ⟨k', hk15, hok⟩ := opS_bad C s2 op nn hne
            subst hok
            have hW8 : Upd (fun k => k = M) wr ((((wr.setCell ⟨M, 1, none⟩ (.int .i64 ((p : Int) + 1))).alloc (.cells #[.int .i64 (k' : Int), .int .i64 nn] 174)).drew).drew) := (((setM wr M 1 _).alloc _).drew).drew
            have hM8 : ((((wr.setCell ⟨M, 1, none⟩ (.int .i64 ((p : Int) + 1))).alloc (.cells #[.int .i64 (k' : Int), .int .i64 nn] 174)).drew).drew).heap[M]? = some (Obj.cells (mcC b s2.pc val (ptrV gf) app args (.pointer top) out 0 0 0 ⟨#[]⟩) 119 (0, 0)) := by
              rw [heap_drew_at, heap_drew_at, hs2, HP.out]
              exact (heap_alloc_lt (heap_setCell_same HM.out)).trans rfl
            have hRS8 := (HRS.out.ext HM.out hW8 hM8)
            have hRS9 := hRS8.regs s2 val app args top gf (by rw [hs2]) (by rw [hs2]) (by rw [hs2]) (by rw [hs2]; exact hRS8.val) (by rw [hs2]; exact hRS8.fr) (by rw [hs2]; exact hRS8.app) (by rw [hs2]; exact hRS8.st)
            have HC := hide (step_call hD hRS9 hM8 k' nn hnn (by rw [hs2, HP.out]; show 0 < (p : Int) + 1 ∧ (p : Int) + 1 < 10000000; omega) hk15 hne)
            have hG8 := HG.out.trans (HRS.out.gw hW8)
            obtain ⟨m', hm'⟩ : ∃ m' : Nat, m' = if (k' : Int) = 12 then m + 1 else m := ⟨_, rfl⟩
            have hm'n : m' ≤ n := by
              rw [hm']
              split
              · rename_i e; have : m ≠ n := fun e2 => hbr ⟨e, e2⟩; omega
              · exact hmn
            rw [← hm'] at hgo
            have hT8 : ∀ w', (∃ X2 ow2, Gw X' ow' ((((wr.setCell ⟨M, 1, none⟩ (.int .i64 ((p : Int) + 1))).alloc (.cells #[.int .i64 (k' : Int), .int .i64 nn] 174)).drew).drew) X2 ow2 w') → w'.heap[w.heap.size + 1]? = some (Obj.cells kindA 171 (0, 0)) ∧ w'.heap[wr.heap.size]? = some (Obj.cells #[.int .i64 (k' : Int), .int .i64 nn] 174 (0, 0)) := by
              rintro w' ⟨X2, ow2, hGw⟩
              have e1 := Go.Proofs.YtlobegpjenabaaaGreatDoor.keepM HM.out hW8 (T := 171) (by decide) _ _ HTB.out
              exact ⟨hRS9.lasts hGw _ _ _ e1 (by decide), hRS9.lasts hGw _ _ _ (by rw [heap_drew_at, heap_drew_at]; exact new_block _ _ _ _) (by decide)⟩
            have HTC := hide (show ((wr.setCell ⟨M, 1, none⟩ (.int .i64 ((p : Int) + 1))).alloc (.cells #[.int .i64 (k' : Int), .int .i64 nn] 174)).heap[w.heap.size + 1]? = some (Obj.cells kindA 171 (0, 0)) from Go.Proofs.YtlobegpjenabaaaGreatDoor.keepM HM.out ((setM wr M 1 _).alloc _) (by decide) _ _ HTB.out)
            have HG8 := hide hG8
            have HHM := hide hm'
            have HT8 := hide hT8
            have HMN := hide hm'n
            have HE0 : (∃ er d o, opS C s2 k' nn = .err er d o) ∨ Hid (Calls Tryz.prog (kindF.getD k' 0) #[.pointer (some ⟨M, 0, none⟩), .int .i64 nn] ((((wr.setCell ⟨M, 1, none⟩ (.int .i64 ((p : Int) + 1))).alloc (.cells #[.int .i64 (k' : Int), .int .i64 nn] 174)).drew).drew) fun e w' => e = .returned .nilIface ∧ NextK B K X ow w M b C n r (w.heap.size + 1) wr.heap.size k' nn m' k w') := by
              cases hR : opS C s2 k' nn with
              | bad => exact absurd hR hne
              | err er d o => exact .inl ⟨er, d, o, rfl⟩
              | ok s' =>
                rw [hR] at hgo HC
                refine .inr ?_
                refine hide (HC.out.mono ?_)
                rintro e w' ⟨rfl, X2, ow2, hMR, hGw⟩
                exact ⟨rfl, (HT8.out w' ⟨X2, ow2, hGw⟩).1, (HT8.out w' ⟨X2, ow2, hGw⟩).2, k, Nat.le_refl _, m', rfl, HMN.out, (HT8.out w' ⟨X2, ow2, hGw⟩).1, X2, ow2, HG8.out.trans hGw, .inl ⟨s', hMR, hgo⟩⟩
              | done t o =>
                rw [hR] at hgo HC
                refine .inr ?_
                cases hgo
                refine hide (HC.out.mono ?_)
                rintro e w' ⟨rfl, X2, ow2, hMR, hGw⟩
                exact ⟨rfl, (HT8.out w' ⟨X2, ow2, hGw⟩).1, (HT8.out w' ⟨X2, ow2, hGw⟩).2, 0, Nat.zero_le _, m', rfl, HMN.out, (HT8.out w' ⟨X2, ow2, hGw⟩).1, X2, ow2, HG8.out.trans hGw, .inr ⟨t, o, hMR, rfl⟩⟩
            rcases HE0 with ⟨er, d, o, hR⟩ | HE
            · rw [hR] at hgo HC
              cases hgo
              have HE : Hid (Calls Tryz.prog (kindF.getD k' 0) #[.pointer (some ⟨M, 0, none⟩), .int .i64 nn] ((((wr.setCell ⟨M, 1, none⟩ (.int .i64 ((p : Int) + 1))).alloc (.cells #[.int .i64 (k' : Int), .int .i64 nn] 174)).drew).drew) fun e w' => ∃ tv xv, e = .returned (.iface tv xv) ∧ ErrK B K X ow w M b C kindA (w.heap.size + 1) wr.heap.size k' nn m' er d o (.iface tv xv) w') := by
                refine HC.out.mono ?_
                rintro e w' ⟨v, kk, rfl, hkk, hev, X2, ow2, s', hMR, hGw, h1, h2⟩
                obtain ⟨tv, xv, rfl⟩ := hev.form
                exact ⟨tv, xv, rfl, ⟨kk, hkk, hev⟩, (HT8.out w' ⟨X2, ow2, hGw⟩).1, (HT8.out w' ⟨X2, ow2, hGw⟩).2, X2, ow2, s', hMR, HG8.out.trans hGw, h1, h2⟩
              clear HC hRS9 hRS8 hM8 hW8 hG8 hT8 hst hne hR HGO HRS HM HG HTB HFE HP HR hD HWW HK0 HT8
              have hk0s : k' = 0 ∨ k' = 1 ∨ k' = 2 ∨ k' = 3 ∨ k' = 4 ∨ k' = 5 ∨ k' = 6 ∨ k' = 7 ∨ k' = 8 ∨ k' = 9 ∨ k' = 10 ∨ k' = 11 ∨ k' = 12 ∨ k' = 13 ∨ k' = 14 := by omega
              rcases hk0s with rfl | rfl | rfl | rfl | rfl | rfl | rfl | rfl | rfl | rfl | rfl | rfl | rfl | rfl | rfl
              · have HE2 : Hid (Calls Tryz.prog 116 #[.pointer (some ⟨M, 0, none⟩), .int .i64 nn] ((((wr.setCell ⟨M, 1, none⟩ (.int .i64 ((p : Int) + 1))).alloc (.cells #[.int .i64 0, .int .i64 nn] 174)).drew).drew) fun e w' => ∃ tv xv, e = .returned (.iface tv xv) ∧ ErrK B K X ow w M b C kindA (w.heap.size + 1) wr.heap.size 0 nn m' er d o (.iface tv xv) w') := HE.out
                have qT : ((wr.setCell ⟨M, 1, none⟩ (.int .i64 ((p : Int) + 1))).alloc (.cells #[.int .i64 0, .int .i64 nn] 174)).cell? ⟨w.heap.size + 1, 0, none⟩ = some (.func (.func 116) #[] #[]) := (cell_of_block HTC.out 0).trans rfl
                have q80 : ((wr.setCell ⟨M, 1, none⟩ (.int .i64 ((p : Int) + 1))).alloc (.cells #[.int .i64 0, .int .i64 nn] 174)).cell? ⟨wr.heap.size, 0, none⟩ = some (.int .i64 0) := (cell_of_block (new_block _ _ _ _) 0).trans rfl
                have q81 : ((wr.setCell ⟨M, 1, none⟩ (.int .i64 ((p : Int) + 1))).alloc (.cells #[.int .i64 0, .int .i64 nn] 174)).cell? ⟨wr.heap.size, 1, none⟩ = some (.int .i64 nn) := (cell_of_block (new_block _ _ _ _) 1).trans rfl
                have hnil := neq_nil
                clear HE HTC
                go_wp2
                go_region_held3 (fun wx => wx.cell? ⟨wr.heap.size, 0, none⟩ = some (.int .i64 0) ∧ wx.cell? ⟨wr.heap.size, 1, none⟩ = some (.int .i64 nn) ∧ wx.cell? ⟨w.heap.size + 1, 0, none⟩ = some (.func (.func 116) #[] #[])) (go_keep) (first | (go_at_call 116; refine HE2.out.mono ?_; rintro e w9 ⟨tv, xv, rfl, hek⟩; have q0 : w9.cell? ⟨wr.heap.size, 0, none⟩ = some (.int .i64 0) := (cell_of_block hek.2.2.1 0).trans rfl; have q1 : w9.cell? ⟨wr.heap.size, 1, none⟩ = some (.int .i64 nn) := (cell_of_block hek.2.2.1 1).trans rfl; have q2 : w9.cell? ⟨w.heap.size + 1, 0, none⟩ = some (.func (.func 116) #[] #[]) := (cell_of_block hek.2.1 0).trans rfl; obtain ⟨gE, zE, q3, q4⟩ := hek.frame; have HEK := hide hek; clear hek))
                all_goals
                  go_wp2
                  go_region
                  go_wp2
                  go_ret2
                  exact HEK.out.fin _ ⟨_, rfl⟩ _ (by have := HHM.out; simp at this; omega)
              · have HE2 : Hid (Calls Tryz.prog 117 #[.pointer (some ⟨M, 0, none⟩), .int .i64 nn] ((((wr.setCell ⟨M, 1, none⟩ (.int .i64 ((p : Int) + 1))).alloc (.cells #[.int .i64 1, .int .i64 nn] 174)).drew).drew) fun e w' => ∃ tv xv, e = .returned (.iface tv xv) ∧ ErrK B K X ow w M b C kindA (w.heap.size + 1) wr.heap.size 1 nn m' er d o (.iface tv xv) w') := HE.out
                have qT : ((wr.setCell ⟨M, 1, none⟩ (.int .i64 ((p : Int) + 1))).alloc (.cells #[.int .i64 1, .int .i64 nn] 174)).cell? ⟨w.heap.size + 1, 1, none⟩ = some (.func (.func 117) #[] #[]) := (cell_of_block HTC.out 1).trans rfl
                have q80 : ((wr.setCell ⟨M, 1, none⟩ (.int .i64 ((p : Int) + 1))).alloc (.cells #[.int .i64 1, .int .i64 nn] 174)).cell? ⟨wr.heap.size, 0, none⟩ = some (.int .i64 1) := (cell_of_block (new_block _ _ _ _) 0).trans rfl
                have q81 : ((wr.setCell ⟨M, 1, none⟩ (.int .i64 ((p : Int) + 1))).alloc (.cells #[.int .i64 1, .int .i64 nn] 174)).cell? ⟨wr.heap.size, 1, none⟩ = some (.int .i64 nn) := (cell_of_block (new_block _ _ _ _) 1).trans rfl
                have hnil := neq_nil
                clear HE HTC
                go_wp2
                go_region_held3 (fun wx => wx.cell? ⟨wr.heap.size, 0, none⟩ = some (.int .i64 1) ∧ wx.cell? ⟨wr.heap.size, 1, none⟩ = some (.int .i64 nn) ∧ wx.cell? ⟨w.heap.size + 1, 1, none⟩ = some (.func (.func 117) #[] #[])) (go_keep) (first | (go_at_call 117; refine HE2.out.mono ?_; rintro e w9 ⟨tv, xv, rfl, hek⟩; have q0 : w9.cell? ⟨wr.heap.size, 0, none⟩ = some (.int .i64 1) := (cell_of_block hek.2.2.1 0).trans rfl; have q1 : w9.cell? ⟨wr.heap.size, 1, none⟩ = some (.int .i64 nn) := (cell_of_block hek.2.2.1 1).trans rfl; have q2 : w9.cell? ⟨w.heap.size + 1, 1, none⟩ = some (.func (.func 117) #[] #[]) := (cell_of_block hek.2.1 1).trans rfl; obtain ⟨gE, zE, q3, q4⟩ := hek.frame; have HEK := hide hek; clear hek))
                all_goals
                  go_wp2
                  go_region
                  go_wp2
                  go_ret2
                  exact HEK.out.fin _ ⟨_, rfl⟩ _ (by have := HHM.out; simp at this; omega)
              · have HE2 : Hid (Calls Tryz.prog 118 #[.pointer (some ⟨M, 0, none⟩), .int .i64 nn] ((((wr.setCell ⟨M, 1, none⟩ (.int .i64 ((p : Int) + 1))).alloc (.cells #[.int .i64 2, .int .i64 nn] 174)).drew).drew) fun e w' => ∃ tv xv, e = .returned (.iface tv xv) ∧ ErrK B K X ow w M b C kindA (w.heap.size + 1) wr.heap.size 2 nn m' er d o (.iface tv xv) w') := HE.out
                have qT : ((wr.setCell ⟨M, 1, none⟩ (.int .i64 ((p : Int) + 1))).alloc (.cells #[.int .i64 2, .int .i64 nn] 174)).cell? ⟨w.heap.size + 1, 2, none⟩ = some (.func (.func 118) #[] #[]) := (cell_of_block HTC.out 2).trans rfl
                have q80 : ((wr.setCell ⟨M, 1, none⟩ (.int .i64 ((p : Int) + 1))).alloc (.cells #[.int .i64 2, .int .i64 nn] 174)).cell? ⟨wr.heap.size, 0, none⟩ = some (.int .i64 2) := (cell_of_block (new_block _ _ _ _) 0).trans rfl
                have q81 : ((wr.setCell ⟨M, 1, none⟩ (.int .i64 ((p : Int) + 1))).alloc (.cells #[.int .i64 2, .int .i64 nn] 174)).cell? ⟨wr.heap.size, 1, none⟩ = some (.int .i64 nn) := (cell_of_block (new_block _ _ _ _) 1).trans rfl
                have hnil := neq_nil
                clear HE HTC
                go_wp2
                go_region_held3 (fun wx => wx.cell? ⟨wr.heap.size, 0, none⟩ = some (.int .i64 2) ∧ wx.cell? ⟨wr.heap.size, 1, none⟩ = some (.int .i64 nn) ∧ wx.cell? ⟨w.heap.size + 1, 2, none⟩ = some (.func (.func 118) #[] #[])) (go_keep) (first | (go_at_call 118; refine HE2.out.mono ?_; rintro e w9 ⟨tv, xv, rfl, hek⟩; have q0 : w9.cell? ⟨wr.heap.size, 0, none⟩ = some (.int .i64 2) := (cell_of_block hek.2.2.1 0).trans rfl; have q1 : w9.cell? ⟨wr.heap.size, 1, none⟩ = some (.int .i64 nn) := (cell_of_block hek.2.2.1 1).trans rfl; have q2 : w9.cell? ⟨w.heap.size + 1, 2, none⟩ = some (.func (.func 118) #[] #[]) := (cell_of_block hek.2.1 2).trans rfl; obtain ⟨gE, zE, q3, q4⟩ := hek.frame; have HEK := hide hek; clear hek))
                all_goals
                  go_wp2
                  go_region
                  go_wp2
                  go_ret2
                  exact HEK.out.fin _ ⟨_, rfl⟩ _ (by have := HHM.out; simp at this; omega)
              · have HE2 : Hid (Calls Tryz.prog 119 #[.pointer (some ⟨M, 0, none⟩), .int .i64 nn] ((((wr.setCell ⟨M, 1, none⟩ (.int .i64 ((p : Int) + 1))).alloc (.cells #[.int .i64 3, .int .i64 nn] 174)).drew).drew) fun e w' => ∃ tv xv, e = .returned (.iface tv xv) ∧ ErrK B K X ow w M b C kindA (w.heap.size + 1) wr.heap.size 3 nn m' er d o (.iface tv xv) w') := HE.out
                have qT : ((wr.setCell ⟨M, 1, none⟩ (.int .i64 ((p : Int) + 1))).alloc (.cells #[.int .i64 3, .int .i64 nn] 174)).cell? ⟨w.heap.size + 1, 3, none⟩ = some (.func (.func 119) #[] #[]) := (cell_of_block HTC.out 3).trans rfl
                have q80 : ((wr.setCell ⟨M, 1, none⟩ (.int .i64 ((p : Int) + 1))).alloc (.cells #[.int .i64 3, .int .i64 nn] 174)).cell? ⟨wr.heap.size, 0, none⟩ = some (.int .i64 3) := (cell_of_block (new_block _ _ _ _) 0).trans rfl
                have q81 : ((wr.setCell ⟨M, 1, none⟩ (.int .i64 ((p : Int) + 1))).alloc (.cells #[.int .i64 3, .int .i64 nn] 174)).cell? ⟨wr.heap.size, 1, none⟩ = some (.int .i64 nn) := (cell_of_block (new_block _ _ _ _) 1).trans rfl
                have hnil := neq_nil
                clear HE HTC
                go_wp2
                go_region_held3 (fun wx => wx.cell? ⟨wr.heap.size, 0, none⟩ = some (.int .i64 3) ∧ wx.cell? ⟨wr.heap.size, 1, none⟩ = some (.int .i64 nn) ∧ wx.cell? ⟨w.heap.size + 1, 3, none⟩ = some (.func (.func 119) #[] #[])) (go_keep) (first | (go_at_call 119; refine HE2.out.mono ?_; rintro e w9 ⟨tv, xv, rfl, hek⟩; have q0 : w9.cell? ⟨wr.heap.size, 0, none⟩ = some (.int .i64 3) := (cell_of_block hek.2.2.1 0).trans rfl; have q1 : w9.cell? ⟨wr.heap.size, 1, none⟩ = some (.int .i64 nn) := (cell_of_block hek.2.2.1 1).trans rfl; have q2 : w9.cell? ⟨w.heap.size + 1, 3, none⟩ = some (.func (.func 119) #[] #[]) := (cell_of_block hek.2.1 3).trans rfl; obtain ⟨gE, zE, q3, q4⟩ := hek.frame; have HEK := hide hek; clear hek))
                all_goals
                  go_wp2
                  go_region
                  go_wp2
                  go_ret2
                  exact HEK.out.fin _ ⟨_, rfl⟩ _ (by have := HHM.out; simp at this; omega)
              · have HE2 : Hid (Calls Tryz.prog 120 #[.pointer (some ⟨M, 0, none⟩), .int .i64 nn] ((((wr.setCell ⟨M, 1, none⟩ (.int .i64 ((p : Int) + 1))).alloc (.cells #[.int .i64 4, .int .i64 nn] 174)).drew).drew) fun e w' => ∃ tv xv, e = .returned (.iface tv xv) ∧ ErrK B K X ow w M b C kindA (w.heap.size + 1) wr.heap.size 4 nn m' er d o (.iface tv xv) w') := HE.out
                have qT : ((wr.setCell ⟨M, 1, none⟩ (.int .i64 ((p : Int) + 1))).alloc (.cells #[.int .i64 4, .int .i64 nn] 174)).cell? ⟨w.heap.size + 1, 4, none⟩ = some (.func (.func 120) #[] #[]) := (cell_of_block HTC.out 4).trans rfl
                have q80 : ((wr.setCell ⟨M, 1, none⟩ (.int .i64 ((p : Int) + 1))).alloc (.cells #[.int .i64 4, .int .i64 nn] 174)).cell? ⟨wr.heap.size, 0, none⟩ = some (.int .i64 4) := (cell_of_block (new_block _ _ _ _) 0).trans rfl
                have q81 : ((wr.setCell ⟨M, 1, none⟩ (.int .i64 ((p : Int) + 1))).alloc (.cells #[.int .i64 4, .int .i64 nn] 174)).cell? ⟨wr.heap.size, 1, none⟩ = some (.int .i64 nn) := (cell_of_block (new_block _ _ _ _) 1).trans rfl
                have hnil := neq_nil
                clear HE HTC
                go_wp2
                go_region_held3 (fun wx => wx.cell? ⟨wr.heap.size, 0, none⟩ = some (.int .i64 4) ∧ wx.cell? ⟨wr.heap.size, 1, none⟩ = some (.int .i64 nn) ∧ wx.cell? ⟨w.heap.size + 1, 4, none⟩ = some (.func (.func 120) #[] #[])) (go_keep) (first | (go_at_call 120; refine HE2.out.mono ?_; rintro e w9 ⟨tv, xv, rfl, hek⟩; have q0 : w9.cell? ⟨wr.heap.size, 0, none⟩ = some (.int .i64 4) := (cell_of_block hek.2.2.1 0).trans rfl; have q1 : w9.cell? ⟨wr.heap.size, 1, none⟩ = some (.int .i64 nn) := (cell_of_block hek.2.2.1 1).trans rfl; have q2 : w9.cell? ⟨w.heap.size + 1, 4, none⟩ = some (.func (.func 120) #[] #[]) := (cell_of_block hek.2.1 4).trans rfl; obtain ⟨gE, zE, q3, q4⟩ := hek.frame; have HEK := hide hek; clear hek))
                all_goals
                  go_wp2
                  go_region
                  go_wp2
                  go_ret2
                  exact HEK.out.fin _ ⟨_, rfl⟩ _ (by have := HHM.out; simp at this; omega)
              · have HE2 : Hid (Calls Tryz.prog 121 #[.pointer (some ⟨M, 0, none⟩), .int .i64 nn] ((((wr.setCell ⟨M, 1, none⟩ (.int .i64 ((p : Int) + 1))).alloc (.cells #[.int .i64 5, .int .i64 nn] 174)).drew).drew) fun e w' => ∃ tv xv, e = .returned (.iface tv xv) ∧ ErrK B K X ow w M b C kindA (w.heap.size + 1) wr.heap.size 5 nn m' er d o (.iface tv xv) w') := HE.out
                have qT : ((wr.setCell ⟨M, 1, none⟩ (.int .i64 ((p : Int) + 1))).alloc (.cells #[.int .i64 5, .int .i64 nn] 174)).cell? ⟨w.heap.size + 1, 5, none⟩ = some (.func (.func 121) #[] #[]) := (cell_of_block HTC.out 5).trans rfl
                have q80 : ((wr.setCell ⟨M, 1, none⟩ (.int .i64 ((p : Int) + 1))).alloc (.cells #[.int .i64 5, .int .i64 nn] 174)).cell? ⟨wr.heap.size, 0, none⟩ = some (.int .i64 5) := (cell_of_block (new_block _ _ _ _) 0).trans rfl
                have q81 : ((wr.setCell ⟨M, 1, none⟩ (.int .i64 ((p : Int) + 1))).alloc (.cells #[.int .i64 5, .int .i64 nn] 174)).cell? ⟨wr.heap.size, 1, none⟩ = some (.int .i64 nn) := (cell_of_block (new_block _ _ _ _) 1).trans rfl
                have hnil := neq_nil
                clear HE HTC
                go_wp2
                go_region_held3 (fun wx => wx.cell? ⟨wr.heap.size, 0, none⟩ = some (.int .i64 5) ∧ wx.cell? ⟨wr.heap.size, 1, none⟩ = some (.int .i64 nn) ∧ wx.cell? ⟨w.heap.size + 1, 5, none⟩ = some (.func (.func 121) #[] #[])) (go_keep) (first | (go_at_call 121; refine HE2.out.mono ?_; rintro e w9 ⟨tv, xv, rfl, hek⟩; have q0 : w9.cell? ⟨wr.heap.size, 0, none⟩ = some (.int .i64 5) := (cell_of_block hek.2.2.1 0).trans rfl; have q1 : w9.cell? ⟨wr.heap.size, 1, none⟩ = some (.int .i64 nn) := (cell_of_block hek.2.2.1 1).trans rfl; have q2 : w9.cell? ⟨w.heap.size + 1, 5, none⟩ = some (.func (.func 121) #[] #[]) := (cell_of_block hek.2.1 5).trans rfl; obtain ⟨gE, zE, q3, q4⟩ := hek.frame; have HEK := hide hek; clear hek))
                all_goals
                  go_wp2
                  go_region
                  go_wp2
                  go_ret2
                  exact HEK.out.fin _ ⟨_, rfl⟩ _ (by have := HHM.out; simp at this; omega)
              · have HE2 : Hid (Calls Tryz.prog 122 #[.pointer (some ⟨M, 0, none⟩), .int .i64 nn] ((((wr.setCell ⟨M, 1, none⟩ (.int .i64 ((p : Int) + 1))).alloc (.cells #[.int .i64 6, .int .i64 nn] 174)).drew).drew) fun e w' => ∃ tv xv, e = .returned (.iface tv xv) ∧ ErrK B K X ow w M b C kindA (w.heap.size + 1) wr.heap.size 6 nn m' er d o (.iface tv xv) w') := HE.out
                have qT : ((wr.setCell ⟨M, 1, none⟩ (.int .i64 ((p : Int) + 1))).alloc (.cells #[.int .i64 6, .int .i64 nn] 174)).cell? ⟨w.heap.size + 1, 6, none⟩ = some (.func (.func 122) #[] #[]) := (cell_of_block HTC.out 6).trans rfl
                have q80 : ((wr.setCell ⟨M, 1, none⟩ (.int .i64 ((p : Int) + 1))).alloc (.cells #[.int .i64 6, .int .i64 nn] 174)).cell? ⟨wr.heap.size, 0, none⟩ = some (.int .i64 6) := (cell_of_block (new_block _ _ _ _) 0).trans rfl
                have q81 : ((wr.setCell ⟨M, 1, none⟩ (.int .i64 ((p : Int) + 1))).alloc (.cells #[.int .i64 6, .int .i64 nn] 174)).cell? ⟨wr.heap.size, 1, none⟩ = some (.int .i64 nn) := (cell_of_block (new_block _ _ _ _) 1).trans rfl
                have hnil := neq_nil
                clear HE HTC
                go_wp2
                go_region_held3 (fun wx => wx.cell? ⟨wr.heap.size, 0, none⟩ = some (.int .i64 6) ∧ wx.cell? ⟨wr.heap.size, 1, none⟩ = some (.int .i64 nn) ∧ wx.cell? ⟨w.heap.size + 1, 6, none⟩ = some (.func (.func 122) #[] #[])) (go_keep) (first | (go_at_call 122; refine HE2.out.mono ?_; rintro e w9 ⟨tv, xv, rfl, hek⟩; have q0 : w9.cell? ⟨wr.heap.size, 0, none⟩ = some (.int .i64 6) := (cell_of_block hek.2.2.1 0).trans rfl; have q1 : w9.cell? ⟨wr.heap.size, 1, none⟩ = some (.int .i64 nn) := (cell_of_block hek.2.2.1 1).trans rfl; have q2 : w9.cell? ⟨w.heap.size + 1, 6, none⟩ = some (.func (.func 122) #[] #[]) := (cell_of_block hek.2.1 6).trans rfl; obtain ⟨gE, zE, q3, q4⟩ := hek.frame; have HEK := hide hek; clear hek))
                all_goals
                  go_wp2
                  go_region
                  go_wp2
                  go_ret2
                  exact HEK.out.fin _ ⟨_, rfl⟩ _ (by have := HHM.out; simp at this; omega)
              · have HE2 : Hid (Calls Tryz.prog 123 #[.pointer (some ⟨M, 0, none⟩), .int .i64 nn] ((((wr.setCell ⟨M, 1, none⟩ (.int .i64 ((p : Int) + 1))).alloc (.cells #[.int .i64 7, .int .i64 nn] 174)).drew).drew) fun e w' => ∃ tv xv, e = .returned (.iface tv xv) ∧ ErrK B K X ow w M b C kindA (w.heap.size + 1) wr.heap.size 7 nn m' er d o (.iface tv xv) w') := HE.out
                have qT : ((wr.setCell ⟨M, 1, none⟩ (.int .i64 ((p : Int) + 1))).alloc (.cells #[.int .i64 7, .int .i64 nn] 174)).cell? ⟨w.heap.size + 1, 7, none⟩ = some (.func (.func 123) #[] #[]) := (cell_of_block HTC.out 7).trans rfl
                have q80 : ((wr.setCell ⟨M, 1, none⟩ (.int .i64 ((p : Int) + 1))).alloc (.cells #[.int .i64 7, .int .i64 nn] 174)).cell? ⟨wr.heap.size, 0, none⟩ = some (.int .i64 7) := (cell_of_block (new_block _ _ _ _) 0).trans rfl
                have q81 : ((wr.setCell ⟨M, 1, none⟩ (.int .i64 ((p : Int) + 1))).alloc (.cells #[.int .i64 7, .int .i64 nn] 174)).cell? ⟨wr.heap.size, 1, none⟩ = some (.int .i64 nn) := (cell_of_block (new_block _ _ _ _) 1).trans rfl
                have hnil := neq_nil
                clear HE HTC
                go_wp2
                go_region_held3 (fun wx => wx.cell? ⟨wr.heap.size, 0, none⟩ = some (.int .i64 7) ∧ wx.cell? ⟨wr.heap.size, 1, none⟩ = some (.int .i64 nn) ∧ wx.cell? ⟨w.heap.size + 1, 7, none⟩ = some (.func (.func 123) #[] #[])) (go_keep) (first | (go_at_call 123; refine HE2.out.mono ?_; rintro e w9 ⟨tv, xv, rfl, hek⟩; have q0 : w9.cell? ⟨wr.heap.size, 0, none⟩ = some (.int .i64 7) := (cell_of_block hek.2.2.1 0).trans rfl; have q1 : w9.cell? ⟨wr.heap.size, 1, none⟩ = some (.int .i64 nn) := (cell_of_block hek.2.2.1 1).trans rfl; have q2 : w9.cell? ⟨w.heap.size + 1, 7, none⟩ = some (.func (.func 123) #[] #[]) := (cell_of_block hek.2.1 7).trans rfl; obtain ⟨gE, zE, q3, q4⟩ := hek.frame; have HEK := hide hek; clear hek))
                all_goals
                  go_wp2
                  go_region
                  go_wp2
                  go_ret2
                  exact HEK.out.fin _ ⟨_, rfl⟩ _ (by have := HHM.out; simp at this; omega)
              · have HE2 : Hid (Calls Tryz.prog 124 #[.pointer (some ⟨M, 0, none⟩), .int .i64 nn] ((((wr.setCell ⟨M, 1, none⟩ (.int .i64 ((p : Int) + 1))).alloc (.cells #[.int .i64 8, .int .i64 nn] 174)).drew).drew) fun e w' => ∃ tv xv, e = .returned (.iface tv xv) ∧ ErrK B K X ow w M b C kindA (w.heap.size + 1) wr.heap.size 8 nn m' er d o (.iface tv xv) w') := HE.out
                have qT : ((wr.setCell ⟨M, 1, none⟩ (.int .i64 ((p : Int) + 1))).alloc (.cells #[.int .i64 8, .int .i64 nn] 174)).cell? ⟨w.heap.size + 1, 8, none⟩ = some (.func (.func 124) #[] #[]) := (cell_of_block HTC.out 8).trans rfl
                have q80 : ((wr.setCell ⟨M, 1, none⟩ (.int .i64 ((p : Int) + 1))).alloc (.cells #[.int .i64 8, .int .i64 nn] 174)).cell? ⟨wr.heap.size, 0, none⟩ = some (.int .i64 8) := (cell_of_block (new_block _ _ _ _) 0).trans rfl
                have q81 : ((wr.setCell ⟨M, 1, none⟩ (.int .i64 ((p : Int) + 1))).alloc (.cells #[.int .i64 8, .int .i64 nn] 174)).cell? ⟨wr.heap.size, 1, none⟩ = some (.int .i64 nn) := (cell_of_block (new_block _ _ _ _) 1).trans rfl
                have hnil := neq_nil
                clear HE HTC
                go_wp2
                go_region_held3 (fun wx => wx.cell? ⟨wr.heap.size, 0, none⟩ = some (.int .i64 8) ∧ wx.cell? ⟨wr.heap.size, 1, none⟩ = some (.int .i64 nn) ∧ wx.cell? ⟨w.heap.size + 1, 8, none⟩ = some (.func (.func 124) #[] #[])) (go_keep) (first | (go_at_call 124; refine HE2.out.mono ?_; rintro e w9 ⟨tv, xv, rfl, hek⟩; have q0 : w9.cell? ⟨wr.heap.size, 0, none⟩ = some (.int .i64 8) := (cell_of_block hek.2.2.1 0).trans rfl; have q1 : w9.cell? ⟨wr.heap.size, 1, none⟩ = some (.int .i64 nn) := (cell_of_block hek.2.2.1 1).trans rfl; have q2 : w9.cell? ⟨w.heap.size + 1, 8, none⟩ = some (.func (.func 124) #[] #[]) := (cell_of_block hek.2.1 8).trans rfl; obtain ⟨gE, zE, q3, q4⟩ := hek.frame; have HEK := hide hek; clear hek))
                all_goals
                  go_wp2
                  go_region
                  go_wp2
                  go_ret2
                  exact HEK.out.fin _ ⟨_, rfl⟩ _ (by have := HHM.out; simp at this; omega)
              · have HE2 : Hid (Calls Tryz.prog 125 #[.pointer (some ⟨M, 0, none⟩), .int .i64 nn] ((((wr.setCell ⟨M, 1, none⟩ (.int .i64 ((p : Int) + 1))).alloc (.cells #[.int .i64 9, .int .i64 nn] 174)).drew).drew) fun e w' => ∃ tv xv, e = .returned (.iface tv xv) ∧ ErrK B K X ow w M b C kindA (w.heap.size + 1) wr.heap.size 9 nn m' er d o (.iface tv xv) w') := HE.out
                have qT : ((wr.setCell ⟨M, 1, none⟩ (.int .i64 ((p : Int) + 1))).alloc (.cells #[.int .i64 9, .int .i64 nn] 174)).cell? ⟨w.heap.size + 1, 9, none⟩ = some (.func (.func 125) #[] #[]) := (cell_of_block HTC.out 9).trans rfl
                have q80 : ((wr.setCell ⟨M, 1, none⟩ (.int .i64 ((p : Int) + 1))).alloc (.cells #[.int .i64 9, .int .i64 nn] 174)).cell? ⟨wr.heap.size, 0, none⟩ = some (.int .i64 9) := (cell_of_block (new_block _ _ _ _) 0).trans rfl
                have q81 : ((wr.setCell ⟨M, 1, none⟩ (.int .i64 ((p : Int) + 1))).alloc (.cells #[.int .i64 9, .int .i64 nn] 174)).cell? ⟨wr.heap.size, 1, none⟩ = some (.int .i64 nn) := (cell_of_block (new_block _ _ _ _) 1).trans rfl
                have hnil := neq_nil
                clear HE HTC
                go_wp2
                go_region_held3 (fun wx => wx.cell? ⟨wr.heap.size, 0, none⟩ = some (.int .i64 9) ∧ wx.cell? ⟨wr.heap.size, 1, none⟩ = some (.int .i64 nn) ∧ wx.cell? ⟨w.heap.size + 1, 9, none⟩ = some (.func (.func 125) #[] #[])) (go_keep) (first | (go_at_call 125; refine HE2.out.mono ?_; rintro e w9 ⟨tv, xv, rfl, hek⟩; have q0 : w9.cell? ⟨wr.heap.size, 0, none⟩ = some (.int .i64 9) := (cell_of_block hek.2.2.1 0).trans rfl; have q1 : w9.cell? ⟨wr.heap.size, 1, none⟩ = some (.int .i64 nn) := (cell_of_block hek.2.2.1 1).trans rfl; have q2 : w9.cell? ⟨w.heap.size + 1, 9, none⟩ = some (.func (.func 125) #[] #[]) := (cell_of_block hek.2.1 9).trans rfl; obtain ⟨gE, zE, q3, q4⟩ := hek.frame; have HEK := hide hek; clear hek))
                all_goals
                  go_wp2
                  go_region
                  go_wp2
                  go_ret2
                  exact HEK.out.fin _ ⟨_, rfl⟩ _ (by have := HHM.out; simp at this; omega)
              · have HE2 : Hid (Calls Tryz.prog 126 #[.pointer (some ⟨M, 0, none⟩), .int .i64 nn] ((((wr.setCell ⟨M, 1, none⟩ (.int .i64 ((p : Int) + 1))).alloc (.cells #[.int .i64 10, .int .i64 nn] 174)).drew).drew) fun e w' => ∃ tv xv, e = .returned (.iface tv xv) ∧ ErrK B K X ow w M b C kindA (w.heap.size + 1) wr.heap.size 10 nn m' er d o (.iface tv xv) w') := HE.out
                have qT : ((wr.setCell ⟨M, 1, none⟩ (.int .i64 ((p : Int) + 1))).alloc (.cells #[.int .i64 10, .int .i64 nn] 174)).cell? ⟨w.heap.size + 1, 10, none⟩ = some (.func (.func 126) #[] #[]) := (cell_of_block HTC.out 10).trans rfl
                have q80 : ((wr.setCell ⟨M, 1, none⟩ (.int .i64 ((p : Int) + 1))).alloc (.cells #[.int .i64 10, .int .i64 nn] 174)).cell? ⟨wr.heap.size, 0, none⟩ = some (.int .i64 10) := (cell_of_block (new_block _ _ _ _) 0).trans rfl
                have q81 : ((wr.setCell ⟨M, 1, none⟩ (.int .i64 ((p : Int) + 1))).alloc (.cells #[.int .i64 10, .int .i64 nn] 174)).cell? ⟨wr.heap.size, 1, none⟩ = some (.int .i64 nn) := (cell_of_block (new_block _ _ _ _) 1).trans rfl
                have hnil := neq_nil
                clear HE HTC
                go_wp2
                go_region_held3 (fun wx => wx.cell? ⟨wr.heap.size, 0, none⟩ = some (.int .i64 10) ∧ wx.cell? ⟨wr.heap.size, 1, none⟩ = some (.int .i64 nn) ∧ wx.cell? ⟨w.heap.size + 1, 10, none⟩ = some (.func (.func 126) #[] #[])) (go_keep) (first | (go_at_call 126; refine HE2.out.mono ?_; rintro e w9 ⟨tv, xv, rfl, hek⟩; have q0 : w9.cell? ⟨wr.heap.size, 0, none⟩ = some (.int .i64 10) := (cell_of_block hek.2.2.1 0).trans rfl; have q1 : w9.cell? ⟨wr.heap.size, 1, none⟩ = some (.int .i64 nn) := (cell_of_block hek.2.2.1 1).trans rfl; have q2 : w9.cell? ⟨w.heap.size + 1, 10, none⟩ = some (.func (.func 126) #[] #[]) := (cell_of_block hek.2.1 10).trans rfl; obtain ⟨gE, zE, q3, q4⟩ := hek.frame; have HEK := hide hek; clear hek))
                all_goals
                  go_wp2
                  go_region
                  go_wp2
                  go_ret2
                  exact HEK.out.fin _ ⟨_, rfl⟩ _ (by have := HHM.out; simp at this; omega)
              · have HE2 : Hid (Calls Tryz.prog 127 #[.pointer (some ⟨M, 0, none⟩), .int .i64 nn] ((((wr.setCell ⟨M, 1, none⟩ (.int .i64 ((p : Int) + 1))).alloc (.cells #[.int .i64 11, .int .i64 nn] 174)).drew).drew) fun e w' => ∃ tv xv, e = .returned (.iface tv xv) ∧ ErrK B K X ow w M b C kindA (w.heap.size + 1) wr.heap.size 11 nn m' er d o (.iface tv xv) w') := HE.out
                have qT : ((wr.setCell ⟨M, 1, none⟩ (.int .i64 ((p : Int) + 1))).alloc (.cells #[.int .i64 11, .int .i64 nn] 174)).cell? ⟨w.heap.size + 1, 11, none⟩ = some (.func (.func 127) #[] #[]) := (cell_of_block HTC.out 11).trans rfl
                have q80 : ((wr.setCell ⟨M, 1, none⟩ (.int .i64 ((p : Int) + 1))).alloc (.cells #[.int .i64 11, .int .i64 nn] 174)).cell? ⟨wr.heap.size, 0, none⟩ = some (.int .i64 11) := (cell_of_block (new_block _ _ _ _) 0).trans rfl
                have q81 : ((wr.setCell ⟨M, 1, none⟩ (.int .i64 ((p : Int) + 1))).alloc (.cells #[.int .i64 11, .int .i64 nn] 174)).cell? ⟨wr.heap.size, 1, none⟩ = some (.int .i64 nn) := (cell_of_block (new_block _ _ _ _) 1).trans rfl
                have hnil := neq_nil
                clear HE HTC
                go_wp2
                go_region_held3 (fun wx => wx.cell? ⟨wr.heap.size, 0, none⟩ = some (.int .i64 11) ∧ wx.cell? ⟨wr.heap.size, 1, none⟩ = some (.int .i64 nn) ∧ wx.cell? ⟨w.heap.size + 1, 11, none⟩ = some (.func (.func 127) #[] #[])) (go_keep) (first | (go_at_call 127; refine HE2.out.mono ?_; rintro e w9 ⟨tv, xv, rfl, hek⟩; have q0 : w9.cell? ⟨wr.heap.size, 0, none⟩ = some (.int .i64 11) := (cell_of_block hek.2.2.1 0).trans rfl; have q1 : w9.cell? ⟨wr.heap.size, 1, none⟩ = some (.int .i64 nn) := (cell_of_block hek.2.2.1 1).trans rfl; have q2 : w9.cell? ⟨w.heap.size + 1, 11, none⟩ = some (.func (.func 127) #[] #[]) := (cell_of_block hek.2.1 11).trans rfl; obtain ⟨gE, zE, q3, q4⟩ := hek.frame; have HEK := hide hek; clear hek))
                all_goals
                  go_wp2
                  go_region
                  go_wp2
                  go_ret2
                  exact HEK.out.fin _ ⟨_, rfl⟩ _ (by have := HHM.out; simp at this; omega)
              · have HE2 : Hid (Calls Tryz.prog 128 #[.pointer (some ⟨M, 0, none⟩), .int .i64 nn] ((((wr.setCell ⟨M, 1, none⟩ (.int .i64 ((p : Int) + 1))).alloc (.cells #[.int .i64 12, .int .i64 nn] 174)).drew).drew) fun e w' => ∃ tv xv, e = .returned (.iface tv xv) ∧ ErrK B K X ow w M b C kindA (w.heap.size + 1) wr.heap.size 12 nn m' er d o (.iface tv xv) w') := HE.out
                have qT : ((wr.setCell ⟨M, 1, none⟩ (.int .i64 ((p : Int) + 1))).alloc (.cells #[.int .i64 12, .int .i64 nn] 174)).cell? ⟨w.heap.size + 1, 12, none⟩ = some (.func (.func 128) #[] #[]) := (cell_of_block HTC.out 12).trans rfl
                have q80 : ((wr.setCell ⟨M, 1, none⟩ (.int .i64 ((p : Int) + 1))).alloc (.cells #[.int .i64 12, .int .i64 nn] 174)).cell? ⟨wr.heap.size, 0, none⟩ = some (.int .i64 12) := (cell_of_block (new_block _ _ _ _) 0).trans rfl
                have q81 : ((wr.setCell ⟨M, 1, none⟩ (.int .i64 ((p : Int) + 1))).alloc (.cells #[.int .i64 12, .int .i64 nn] 174)).cell? ⟨wr.heap.size, 1, none⟩ = some (.int .i64 nn) := (cell_of_block (new_block _ _ _ _) 1).trans rfl
                have hnil := neq_nil
                have bmn : ((m : Int) == (n : Int)) = false := by rw [beq_eq_false_iff_ne]; intro e; exact hbr ⟨rfl, by omega⟩
                clear HE HTC
                go_wp2
                go_region_held3 (fun wx => wx.cell? ⟨wr.heap.size, 0, none⟩ = some (.int .i64 12) ∧ wx.cell? ⟨wr.heap.size, 1, none⟩ = some (.int .i64 nn) ∧ wx.cell? ⟨w.heap.size + 1, 12, none⟩ = some (.func (.func 128) #[] #[])) (go_keep) (first | (go_at_call 128; refine HE2.out.mono ?_; rintro e w9 ⟨tv, xv, rfl, hek⟩; have q0 : w9.cell? ⟨wr.heap.size, 0, none⟩ = some (.int .i64 12) := (cell_of_block hek.2.2.1 0).trans rfl; have q1 : w9.cell? ⟨wr.heap.size, 1, none⟩ = some (.int .i64 nn) := (cell_of_block hek.2.2.1 1).trans rfl; have q2 : w9.cell? ⟨w.heap.size + 1, 12, none⟩ = some (.func (.func 128) #[] #[]) := (cell_of_block hek.2.1 12).trans rfl; obtain ⟨gE, zE, q3, q4⟩ := hek.frame; have HEK := hide hek; clear hek))
                all_goals
                  go_wp2
                  go_region
                  go_wp2
                  go_ret2
                  exact HEK.out.fin _ ⟨_, rfl⟩ _ (by have := HHM.out; simp at this; omega)
              · have HE2 : Hid (Calls Tryz.prog 129 #[.pointer (some ⟨M, 0, none⟩), .int .i64 nn] ((((wr.setCell ⟨M, 1, none⟩ (.int .i64 ((p : Int) + 1))).alloc (.cells #[.int .i64 13, .int .i64 nn] 174)).drew).drew) fun e w' => ∃ tv xv, e = .returned (.iface tv xv) ∧ ErrK B K X ow w M b C kindA (w.heap.size + 1) wr.heap.size 13 nn m' er d o (.iface tv xv) w') := HE.out
                have qT : ((wr.setCell ⟨M, 1, none⟩ (.int .i64 ((p : Int) + 1))).alloc (.cells #[.int .i64 13, .int .i64 nn] 174)).cell? ⟨w.heap.size + 1, 13, none⟩ = some (.func (.func 129) #[] #[]) := (cell_of_block HTC.out 13).trans rfl
                have q80 : ((wr.setCell ⟨M, 1, none⟩ (.int .i64 ((p : Int) + 1))).alloc (.cells #[.int .i64 13, .int .i64 nn] 174)).cell? ⟨wr.heap.size, 0, none⟩ = some (.int .i64 13) := (cell_of_block (new_block _ _ _ _) 0).trans rfl
                have q81 : ((wr.setCell ⟨M, 1, none⟩ (.int .i64 ((p : Int) + 1))).alloc (.cells #[.int .i64 13, .int .i64 nn] 174)).cell? ⟨wr.heap.size, 1, none⟩ = some (.int .i64 nn) := (cell_of_block (new_block _ _ _ _) 1).trans rfl
                have hnil := neq_nil
                clear HE HTC
                go_wp2
                go_region_held3 (fun wx => wx.cell? ⟨wr.heap.size, 0, none⟩ = some (.int .i64 13) ∧ wx.cell? ⟨wr.heap.size, 1, none⟩ = some (.int .i64 nn) ∧ wx.cell? ⟨w.heap.size + 1, 13, none⟩ = some (.func (.func 129) #[] #[])) (go_keep) (first | (go_at_call 129; refine HE2.out.mono ?_; rintro e w9 ⟨tv, xv, rfl, hek⟩; have q0 : w9.cell? ⟨wr.heap.size, 0, none⟩ = some (.int .i64 13) := (cell_of_block hek.2.2.1 0).trans rfl; have q1 : w9.cell? ⟨wr.heap.size, 1, none⟩ = some (.int .i64 nn) := (cell_of_block hek.2.2.1 1).trans rfl; have q2 : w9.cell? ⟨w.heap.size + 1, 13, none⟩ = some (.func (.func 129) #[] #[]) := (cell_of_block hek.2.1 13).trans rfl; obtain ⟨gE, zE, q3, q4⟩ := hek.frame; have HEK := hide hek; clear hek))
                all_goals
                  go_wp2
                  go_region
                  go_wp2
                  go_ret2
                  exact HEK.out.fin _ ⟨_, rfl⟩ _ (by have := HHM.out; simp at this; omega)
              · have HE2 : Hid (Calls Tryz.prog 130 #[.pointer (some ⟨M, 0, none⟩), .int .i64 nn] ((((wr.setCell ⟨M, 1, none⟩ (.int .i64 ((p : Int) + 1))).alloc (.cells #[.int .i64 14, .int .i64 nn] 174)).drew).drew) fun e w' => ∃ tv xv, e = .returned (.iface tv xv) ∧ ErrK B K X ow w M b C kindA (w.heap.size + 1) wr.heap.size 14 nn m' er d o (.iface tv xv) w') := HE.out
                have qT : ((wr.setCell ⟨M, 1, none⟩ (.int .i64 ((p : Int) + 1))).alloc (.cells #[.int .i64 14, .int .i64 nn] 174)).cell? ⟨w.heap.size + 1, 14, none⟩ = some (.func (.func 130) #[] #[]) := (cell_of_block HTC.out 14).trans rfl
                have q80 : ((wr.setCell ⟨M, 1, none⟩ (.int .i64 ((p : Int) + 1))).alloc (.cells #[.int .i64 14, .int .i64 nn] 174)).cell? ⟨wr.heap.size, 0, none⟩ = some (.int .i64 14) := (cell_of_block (new_block _ _ _ _) 0).trans rfl
                have q81 : ((wr.setCell ⟨M, 1, none⟩ (.int .i64 ((p : Int) + 1))).alloc (.cells #[.int .i64 14, .int .i64 nn] 174)).cell? ⟨wr.heap.size, 1, none⟩ = some (.int .i64 nn) := (cell_of_block (new_block _ _ _ _) 1).trans rfl
                have hnil := neq_nil
                clear HE HTC
                go_wp2
                go_region_held3 (fun wx => wx.cell? ⟨wr.heap.size, 0, none⟩ = some (.int .i64 14) ∧ wx.cell? ⟨wr.heap.size, 1, none⟩ = some (.int .i64 nn) ∧ wx.cell? ⟨w.heap.size + 1, 14, none⟩ = some (.func (.func 130) #[] #[])) (go_keep) (first | (go_at_call 130; refine HE2.out.mono ?_; rintro e w9 ⟨tv, xv, rfl, hek⟩; have q0 : w9.cell? ⟨wr.heap.size, 0, none⟩ = some (.int .i64 14) := (cell_of_block hek.2.2.1 0).trans rfl; have q1 : w9.cell? ⟨wr.heap.size, 1, none⟩ = some (.int .i64 nn) := (cell_of_block hek.2.2.1 1).trans rfl; have q2 : w9.cell? ⟨w.heap.size + 1, 14, none⟩ = some (.func (.func 130) #[] #[]) := (cell_of_block hek.2.1 14).trans rfl; obtain ⟨gE, zE, q3, q4⟩ := hek.frame; have HEK := hide hek; clear hek))
                all_goals
                  go_wp2
                  go_region
                  go_wp2
                  go_ret2
                  exact HEK.out.fin _ ⟨_, rfl⟩ _ (by have := HHM.out; simp at this; omega)
            · obtain ⟨kk, hkk⟩ : ∃ kk, kk = k := ⟨_, rfl⟩
              rw [← hkk] at HE HK0
              clear HC hRS9 hRS8 hM8 hW8 hG8 hT8 hst hne HGO HRS HM HG HTB HFE HP HR hD HWW HT8 hgo hkk
              have hk0s : k' = 0 ∨ k' = 1 ∨ k' = 2 ∨ k' = 3 ∨ k' = 4 ∨ k' = 5 ∨ k' = 6 ∨ k' = 7 ∨ k' = 8 ∨ k' = 9 ∨ k' = 10 ∨ k' = 11 ∨ k' = 12 ∨ k' = 13 ∨ k' = 14 := by omega
              rcases hk0s with rfl | rfl | rfl | rfl | rfl | rfl | rfl | rfl | rfl | rfl | rfl | rfl | rfl | rfl | rfl
              · have HE2 : Hid (Calls Tryz.prog 116 #[.pointer (some ⟨M, 0, none⟩), .int .i64 nn] ((((wr.setCell ⟨M, 1, none⟩ (.int .i64 ((p : Int) + 1))).alloc (.cells #[.int .i64 0, .int .i64 nn] 174)).drew).drew) fun e w' => e = .returned .nilIface ∧ NextK B K X ow w M b C n r (w.heap.size + 1) wr.heap.size 0 nn m' kk w') := HE.out
                have qT : ((wr.setCell ⟨M, 1, none⟩ (.int .i64 ((p : Int) + 1))).alloc (.cells #[.int .i64 0, .int .i64 nn] 174)).cell? ⟨w.heap.size + 1, 0, none⟩ = some (.func (.func 116) #[] #[]) := (cell_of_block HTC.out 0).trans rfl
                have q80 : ((wr.setCell ⟨M, 1, none⟩ (.int .i64 ((p : Int) + 1))).alloc (.cells #[.int .i64 0, .int .i64 nn] 174)).cell? ⟨wr.heap.size, 0, none⟩ = some (.int .i64 0) := (cell_of_block (new_block _ _ _ _) 0).trans rfl
                have q81 : ((wr.setCell ⟨M, 1, none⟩ (.int .i64 ((p : Int) + 1))).alloc (.cells #[.int .i64 0, .int .i64 nn] 174)).cell? ⟨wr.heap.size, 1, none⟩ = some (.int .i64 nn) := (cell_of_block (new_block _ _ _ _) 1).trans rfl
                have HMM := hide (show ((m' : Nat) : Int) = (m : Int) by have := HHM.out; simp at this; omega)
                clear HE HTC
                go_wp2
                go_region_held3 (fun wx => wx.cell? ⟨wr.heap.size, 0, none⟩ = some (.int .i64 0) ∧ wx.cell? ⟨wr.heap.size, 1, none⟩ = some (.int .i64 nn) ∧ wx.cell? ⟨w.heap.size + 1, 0, none⟩ = some (.func (.func 116) #[] #[])) (go_keep) (first | (go_at_call 116; refine HE2.out.mono ?_; rintro e w9 ⟨rfl, hek⟩; have q0 : w9.cell? ⟨wr.heap.size, 0, none⟩ = some (.int .i64 0) := (cell_of_block hek.2.1 0).trans rfl; have q1 : w9.cell? ⟨wr.heap.size, 1, none⟩ = some (.int .i64 nn) := (cell_of_block hek.2.1 1).trans rfl; have q2 : w9.cell? ⟨w.heap.size + 1, 0, none⟩ = some (.func (.func 116) #[] #[]) := (cell_of_block hek.1 0).trans rfl; have HEK := hide hek; clear hek))
                all_goals
                  go_wp2
                  go_roundw
                  case rel => exact HEK.out.rel HMM.out
                  case measure => exact HEK.out.meas HMM.out HK0.out
              · have HE2 : Hid (Calls Tryz.prog 117 #[.pointer (some ⟨M, 0, none⟩), .int .i64 nn] ((((wr.setCell ⟨M, 1, none⟩ (.int .i64 ((p : Int) + 1))).alloc (.cells #[.int .i64 1, .int .i64 nn] 174)).drew).drew) fun e w' => e = .returned .nilIface ∧ NextK B K X ow w M b C n r (w.heap.size + 1) wr.heap.size 1 nn m' kk w') := HE.out
                have qT : ((wr.setCell ⟨M, 1, none⟩ (.int .i64 ((p : Int) + 1))).alloc (.cells #[.int .i64 1, .int .i64 nn] 174)).cell? ⟨w.heap.size + 1, 1, none⟩ = some (.func (.func 117) #[] #[]) := (cell_of_block HTC.out 1).trans rfl
                have q80 : ((wr.setCell ⟨M, 1, none⟩ (.int .i64 ((p : Int) + 1))).alloc (.cells #[.int .i64 1, .int .i64 nn] 174)).cell? ⟨wr.heap.size, 0, none⟩ = some (.int .i64 1) := (cell_of_block (new_block _ _ _ _) 0).trans rfl
                have q81 : ((wr.setCell ⟨M, 1, none⟩ (.int .i64 ((p : Int) + 1))).alloc (.cells #[.int .i64 1, .int .i64 nn] 174)).cell? ⟨wr.heap.size, 1, none⟩ = some (.int .i64 nn) := (cell_of_block (new_block _ _ _ _) 1).trans rfl
                have HMM := hide (show ((m' : Nat) : Int) = (m : Int) by have := HHM.out; simp at this; omega)
                clear HE HTC
                go_wp2
                go_region_held3 (fun wx => wx.cell? ⟨wr.heap.size, 0, none⟩ = some (.int .i64 1) ∧ wx.cell? ⟨wr.heap.size, 1, none⟩ = some (.int .i64 nn) ∧ wx.cell? ⟨w.heap.size + 1, 1, none⟩ = some (.func (.func 117) #[] #[])) (go_keep) (first | (go_at_call 117; refine HE2.out.mono ?_; rintro e w9 ⟨rfl, hek⟩; have q0 : w9.cell? ⟨wr.heap.size, 0, none⟩ = some (.int .i64 1) := (cell_of_block hek.2.1 0).trans rfl; have q1 : w9.cell? ⟨wr.heap.size, 1, none⟩ = some (.int .i64 nn) := (cell_of_block hek.2.1 1).trans rfl; have q2 : w9.cell? ⟨w.heap.size + 1, 1, none⟩ = some (.func (.func 117) #[] #[]) := (cell_of_block hek.1 1).trans rfl; have HEK := hide hek; clear hek))
                all_goals
                  go_wp2
                  go_roundw
                  case rel => exact HEK.out.rel HMM.out
                  case measure => exact HEK.out.meas HMM.out HK0.out
              · have HE2 : Hid (Calls Tryz.prog 118 #[.pointer (some ⟨M, 0, none⟩), .int .i64 nn] ((((wr.setCell ⟨M, 1, none⟩ (.int .i64 ((p : Int) + 1))).alloc (.cells #[.int .i64 2, .int .i64 nn] 174)).drew).drew) fun e w' => e = .returned .nilIface ∧ NextK B K X ow w M b C n r (w.heap.size + 1) wr.heap.size 2 nn m' kk w') := HE.out
                have qT : ((wr.setCell ⟨M, 1, none⟩ (.int .i64 ((p : Int) + 1))).alloc (.cells #[.int .i64 2, .int .i64 nn] 174)).cell? ⟨w.heap.size + 1, 2, none⟩ = some (.func (.func 118) #[] #[]) := (cell_of_block HTC.out 2).trans rfl
                have q80 : ((wr.setCell ⟨M, 1, none⟩ (.int .i64 ((p : Int) + 1))).alloc (.cells #[.int .i64 2, .int .i64 nn] 174)).cell? ⟨wr.heap.size, 0, none⟩ = some (.int .i64 2) := (cell_of_block (new_block _ _ _ _) 0).trans rfl
                have q81 : ((wr.setCell ⟨M, 1, none⟩ (.int .i64 ((p : Int) + 1))).alloc (.cells #[.int .i64 2, .int .i64 nn] 174)).cell? ⟨wr.heap.size, 1, none⟩ = some (.int .i64 nn) := (cell_of_block (new_block _ _ _ _) 1).trans rfl
                have HMM := hide (show ((m' : Nat) : Int) = (m : Int) by have := HHM.out; simp at this; omega)
                clear HE HTC
                go_wp2
                go_region_held3 (fun wx => wx.cell? ⟨wr.heap.size, 0, none⟩ = some (.int .i64 2) ∧ wx.cell? ⟨wr.heap.size, 1, none⟩ = some (.int .i64 nn) ∧ wx.cell? ⟨w.heap.size + 1, 2, none⟩ = some (.func (.func 118) #[] #[])) (go_keep) (first | (go_at_call 118; refine HE2.out.mono ?_; rintro e w9 ⟨rfl, hek⟩; have q0 : w9.cell? ⟨wr.heap.size, 0, none⟩ = some (.int .i64 2) := (cell_of_block hek.2.1 0).trans rfl; have q1 : w9.cell? ⟨wr.heap.size, 1, none⟩ = some (.int .i64 nn) := (cell_of_block hek.2.1 1).trans rfl; have q2 : w9.cell? ⟨w.heap.size + 1, 2, none⟩ = some (.func (.func 118) #[] #[]) := (cell_of_block hek.1 2).trans rfl; have HEK := hide hek; clear hek))
                all_goals
                  go_wp2
                  go_roundw
                  case rel => exact HEK.out.rel HMM.out
                  case measure => exact HEK.out.meas HMM.out HK0.out
              · have HE2 : Hid (Calls Tryz.prog 119 #[.pointer (some ⟨M, 0, none⟩), .int .i64 nn] ((((wr.setCell ⟨M, 1, none⟩ (.int .i64 ((p : Int) + 1))).alloc (.cells #[.int .i64 3, .int .i64 nn] 174)).drew).drew) fun e w' => e = .returned .nilIface ∧ NextK B K X ow w M b C n r (w.heap.size + 1) wr.heap.size 3 nn m' kk w') := HE.out
                have qT : ((wr.setCell ⟨M, 1, none⟩ (.int .i64 ((p : Int) + 1))).alloc (.cells #[.int .i64 3, .int .i64 nn] 174)).cell? ⟨w.heap.size + 1, 3, none⟩ = some (.func (.func 119) #[] #[]) := (cell_of_block HTC.out 3).trans rfl
                have q80 : ((wr.setCell ⟨M, 1, none⟩ (.int .i64 ((p : Int) + 1))).alloc (.cells #[.int .i64 3, .int .i64 nn] 174)).cell? ⟨wr.heap.size, 0, none⟩ = some (.int .i64 3) := (cell_of_block (new_block _ _ _ _) 0).trans rfl
                have q81 : ((wr.setCell ⟨M, 1, none⟩ (.int .i64 ((p : Int) + 1))).alloc (.cells #[.int .i64 3, .int .i64 nn] 174)).cell? ⟨wr.heap.size, 1, none⟩ = some (.int .i64 nn) := (cell_of_block (new_block _ _ _ _) 1).trans rfl
                have HMM := hide (show ((m' : Nat) : Int) = (m : Int) by have := HHM.out; simp at this; omega)
                clear HE HTC
                go_wp2
                go_region_held3 (fun wx => wx.cell? ⟨wr.heap.size, 0, none⟩ = some (.int .i64 3) ∧ wx.cell? ⟨wr.heap.size, 1, none⟩ = some (.int .i64 nn) ∧ wx.cell? ⟨w.heap.size + 1, 3, none⟩ = some (.func (.func 119) #[] #[])) (go_keep) (first | (go_at_call 119; refine HE2.out.mono ?_; rintro e w9 ⟨rfl, hek⟩; have q0 : w9.cell? ⟨wr.heap.size, 0, none⟩ = some (.int .i64 3) := (cell_of_block hek.2.1 0).trans rfl; have q1 : w9.cell? ⟨wr.heap.size, 1, none⟩ = some (.int .i64 nn) := (cell_of_block hek.2.1 1).trans rfl; have q2 : w9.cell? ⟨w.heap.size + 1, 3, none⟩ = some (.func (.func 119) #[] #[]) := (cell_of_block hek.1 3).trans rfl; have HEK := hide hek; clear hek))
                all_goals
                  go_wp2
                  go_roundw
                  case rel => exact HEK.out.rel HMM.out
                  case measure => exact HEK.out.meas HMM.out HK0.out
              · have HE2 : Hid (Calls Tryz.prog 120 #[.pointer (some ⟨M, 0, none⟩), .int .i64 nn] ((((wr.setCell ⟨M, 1, none⟩ (.int .i64 ((p : Int) + 1))).alloc (.cells #[.int .i64 4, .int .i64 nn] 174)).drew).drew) fun e w' => e = .returned .nilIface ∧ NextK B K X ow w M b C n r (w.heap.size + 1) wr.heap.size 4 nn m' kk w') := HE.out
                have qT : ((wr.setCell ⟨M, 1, none⟩ (.int .i64 ((p : Int) + 1))).alloc (.cells #[.int .i64 4, .int .i64 nn] 174)).cell? ⟨w.heap.size + 1, 4, none⟩ = some (.func (.func 120) #[] #[]) := (cell_of_block HTC.out 4).trans rfl
                have q80 : ((wr.setCell ⟨M, 1, none⟩ (.int .i64 ((p : Int) + 1))).alloc (.cells #[.int .i64 4, .int .i64 nn] 174)).cell? ⟨wr.heap.size, 0, none⟩ = some (.int .i64 4) := (cell_of_block (new_block _ _ _ _) 0).trans rfl
                have q81 : ((wr.setCell ⟨M, 1, none⟩ (.int .i64 ((p : Int) + 1))).alloc (.cells #[.int .i64 4, .int .i64 nn] 174)).cell? ⟨wr.heap.size, 1, none⟩ = some (.int .i64 nn) := (cell_of_block (new_block _ _ _ _) 1).trans rfl
                have HMM := hide (show ((m' : Nat) : Int) = (m : Int) by have := HHM.out; simp at this; omega)
                clear HE HTC
                go_wp2
                go_region_held3 (fun wx => wx.cell? ⟨wr.heap.size, 0, none⟩ = some (.int .i64 4) ∧ wx.cell? ⟨wr.heap.size, 1, none⟩ = some (.int .i64 nn) ∧ wx.cell? ⟨w.heap.size + 1, 4, none⟩ = some (.func (.func 120) #[] #[])) (go_keep) (first | (go_at_call 120; refine HE2.out.mono ?_; rintro e w9 ⟨rfl, hek⟩; have q0 : w9.cell? ⟨wr.heap.size, 0, none⟩ = some (.int .i64 4) := (cell_of_block hek.2.1 0).trans rfl; have q1 : w9.cell? ⟨wr.heap.size, 1, none⟩ = some (.int .i64 nn) := (cell_of_block hek.2.1 1).trans rfl; have q2 : w9.cell? ⟨w.heap.size + 1, 4, none⟩ = some (.func (.func 120) #[] #[]) := (cell_of_block hek.1 4).trans rfl; have HEK := hide hek; clear hek))
                all_goals
                  go_wp2
                  go_roundw
                  case rel => exact HEK.out.rel HMM.out
                  case measure => exact HEK.out.meas HMM.out HK0.out
              · have HE2 : Hid (Calls Tryz.prog 121 #[.pointer (some ⟨M, 0, none⟩), .int .i64 nn] ((((wr.setCell ⟨M, 1, none⟩ (.int .i64 ((p : Int) + 1))).alloc (.cells #[.int .i64 5, .int .i64 nn] 174)).drew).drew) fun e w' => e = .returned .nilIface ∧ NextK B K X ow w M b C n r (w.heap.size + 1) wr.heap.size 5 nn m' kk w') := HE.out
                have qT : ((wr.setCell ⟨M, 1, none⟩ (.int .i64 ((p : Int) + 1))).alloc (.cells #[.int .i64 5, .int .i64 nn] 174)).cell? ⟨w.heap.size + 1, 5, none⟩ = some (.func (.func 121) #[] #[]) := (cell_of_block HTC.out 5).trans rfl
                have q80 : ((wr.setCell ⟨M, 1, none⟩ (.int .i64 ((p : Int) + 1))).alloc (.cells #[.int .i64 5, .int .i64 nn] 174)).cell? ⟨wr.heap.size, 0, none⟩ = some (.int .i64 5) := (cell_of_block (new_block _ _ _ _) 0).trans rfl
                have q81 : ((wr.setCell ⟨M, 1, none⟩ (.int .i64 ((p : Int) + 1))).alloc (.cells #[.int .i64 5, .int .i64 nn] 174)).cell? ⟨wr.heap.size, 1, none⟩ = some (.int .i64 nn) := (cell_of_block (new_block _ _ _ _) 1).trans rfl
                have HMM := hide (show ((m' : Nat) : Int) = (m : Int) by have := HHM.out; simp at this; omega)
                clear HE HTC
                go_wp2
                go_region_held3 (fun wx => wx.cell? ⟨wr.heap.size, 0, none⟩ = some (.int .i64 5) ∧ wx.cell? ⟨wr.heap.size, 1, none⟩ = some (.int .i64 nn) ∧ wx.cell? ⟨w.heap.size + 1, 5, none⟩ = some (.func (.func 121) #[] #[])) (go_keep) (first | (go_at_call 121; refine HE2.out.mono ?_; rintro e w9 ⟨rfl, hek⟩; have q0 : w9.cell? ⟨wr.heap.size, 0, none⟩ = some (.int .i64 5) := (cell_of_block hek.2.1 0).trans rfl; have q1 : w9.cell? ⟨wr.heap.size, 1, none⟩ = some (.int .i64 nn) := (cell_of_block hek.2.1 1).trans rfl; have q2 : w9.cell? ⟨w.heap.size + 1, 5, none⟩ = some (.func (.func 121) #[] #[]) := (cell_of_block hek.1 5).trans rfl; have HEK := hide hek; clear hek))
                all_goals
                  go_wp2
                  go_roundw
                  case rel => exact HEK.out.rel HMM.out
                  case measure => exact HEK.out.meas HMM.out HK0.out
              · have HE2 : Hid (Calls Tryz.prog 122 #[.pointer (some ⟨M, 0, none⟩), .int .i64 nn] ((((wr.setCell ⟨M, 1, none⟩ (.int .i64 ((p : Int) + 1))).alloc (.cells #[.int .i64 6, .int .i64 nn] 174)).drew).drew) fun e w' => e = .returned .nilIface ∧ NextK B K X ow w M b C n r (w.heap.size + 1) wr.heap.size 6 nn m' kk w') := HE.out
                have qT : ((wr.setCell ⟨M, 1, none⟩ (.int .i64 ((p : Int) + 1))).alloc (.cells #[.int .i64 6, .int .i64 nn] 174)).cell? ⟨w.heap.size + 1, 6, none⟩ = some (.func (.func 122) #[] #[]) := (cell_of_block HTC.out 6).trans rfl
                have q80 : ((wr.setCell ⟨M, 1, none⟩ (.int .i64 ((p : Int) + 1))).alloc (.cells #[.int .i64 6, .int .i64 nn] 174)).cell? ⟨wr.heap.size, 0, none⟩ = some (.int .i64 6) := (cell_of_block (new_block _ _ _ _) 0).trans rfl
                have q81 : ((wr.setCell ⟨M, 1, none⟩ (.int .i64 ((p : Int) + 1))).alloc (.cells #[.int .i64 6, .int .i64 nn] 174)).cell? ⟨wr.heap.size, 1, none⟩ = some (.int .i64 nn) := (cell_of_block (new_block _ _ _ _) 1).trans rfl
                have HMM := hide (show ((m' : Nat) : Int) = (m : Int) by have := HHM.out; simp at this; omega)
                clear HE HTC
                go_wp2
                go_region_held3 (fun wx => wx.cell? ⟨wr.heap.size, 0, none⟩ = some (.int .i64 6) ∧ wx.cell? ⟨wr.heap.size, 1, none⟩ = some (.int .i64 nn) ∧ wx.cell? ⟨w.heap.size + 1, 6, none⟩ = some (.func (.func 122) #[] #[])) (go_keep) (first | (go_at_call 122; refine HE2.out.mono ?_; rintro e w9 ⟨rfl, hek⟩; have q0 : w9.cell? ⟨wr.heap.size, 0, none⟩ = some (.int .i64 6) := (cell_of_block hek.2.1 0).trans rfl; have q1 : w9.cell? ⟨wr.heap.size, 1, none⟩ = some (.int .i64 nn) := (cell_of_block hek.2.1 1).trans rfl; have q2 : w9.cell? ⟨w.heap.size + 1, 6, none⟩ = some (.func (.func 122) #[] #[]) := (cell_of_block hek.1 6).trans rfl; have HEK := hide hek; clear hek))
                all_goals
                  go_wp2
                  go_roundw
                  case rel => exact HEK.out.rel HMM.out
                  case measure => exact HEK.out.meas HMM.out HK0.out
              · have HE2 : Hid (Calls Tryz.prog 123 #[.pointer (some ⟨M, 0, none⟩), .int .i64 nn] ((((wr.setCell ⟨M, 1, none⟩ (.int .i64 ((p : Int) + 1))).alloc (.cells #[.int .i64 7, .int .i64 nn] 174)).drew).drew) fun e w' => e = .returned .nilIface ∧ NextK B K X ow w M b C n r (w.heap.size + 1) wr.heap.size 7 nn m' kk w') := HE.out
                have qT : ((wr.setCell ⟨M, 1, none⟩ (.int .i64 ((p : Int) + 1))).alloc (.cells #[.int .i64 7, .int .i64 nn] 174)).cell? ⟨w.heap.size + 1, 7, none⟩ = some (.func (.func 123) #[] #[]) := (cell_of_block HTC.out 7).trans rfl
                have q80 : ((wr.setCell ⟨M, 1, none⟩ (.int .i64 ((p : Int) + 1))).alloc (.cells #[.int .i64 7, .int .i64 nn] 174)).cell? ⟨wr.heap.size, 0, none⟩ = some (.int .i64 7) := (cell_of_block (new_block _ _ _ _) 0).trans rfl
                have q81 : ((wr.setCell ⟨M, 1, none⟩ (.int .i64 ((p : Int) + 1))).alloc (.cells #[.int .i64 7, .int .i64 nn] 174)).cell? ⟨wr.heap.size, 1, none⟩ = some (.int .i64 nn) := (cell_of_block (new_block _ _ _ _) 1).trans rfl
                have HMM := hide (show ((m' : Nat) : Int) = (m : Int) by have := HHM.out; simp at this; omega)
                clear HE HTC
                go_wp2
                go_region_held3 (fun wx => wx.cell? ⟨wr.heap.size, 0, none⟩ = some (.int .i64 7) ∧ wx.cell? ⟨wr.heap.size, 1, none⟩ = some (.int .i64 nn) ∧ wx.cell? ⟨w.heap.size + 1, 7, none⟩ = some (.func (.func 123) #[] #[])) (go_keep) (first | (go_at_call 123; refine HE2.out.mono ?_; rintro e w9 ⟨rfl, hek⟩; have q0 : w9.cell? ⟨wr.heap.size, 0, none⟩ = some (.int .i64 7) := (cell_of_block hek.2.1 0).trans rfl; have q1 : w9.cell? ⟨wr.heap.size, 1, none⟩ = some (.int .i64 nn) := (cell_of_block hek.2.1 1).trans rfl; have q2 : w9.cell? ⟨w.heap.size + 1, 7, none⟩ = some (.func (.func 123) #[] #[]) := (cell_of_block hek.1 7).trans rfl; have HEK := hide hek; clear hek))
                all_goals
                  go_wp2
                  go_roundw
                  case rel => exact HEK.out.rel HMM.out
                  case measure => exact HEK.out.meas HMM.out HK0.out
              · have HE2 : Hid (Calls Tryz.prog 124 #[.pointer (some ⟨M, 0, none⟩), .int .i64 nn] ((((wr.setCell ⟨M, 1, none⟩ (.int .i64 ((p : Int) + 1))).alloc (.cells #[.int .i64 8, .int .i64 nn] 174)).drew).drew) fun e w' => e = .returned .nilIface ∧ NextK B K X ow w M b C n r (w.heap.size + 1) wr.heap.size 8 nn m' kk w') := HE.out
                have qT : ((wr.setCell ⟨M, 1, none⟩ (.int .i64 ((p : Int) + 1))).alloc (.cells #[.int .i64 8, .int .i64 nn] 174)).cell? ⟨w.heap.size + 1, 8, none⟩ = some (.func (.func 124) #[] #[]) := (cell_of_block HTC.out 8).trans rfl
                have q80 : ((wr.setCell ⟨M, 1, none⟩ (.int .i64 ((p : Int) + 1))).alloc (.cells #[.int .i64 8, .int .i64 nn] 174)).cell? ⟨wr.heap.size, 0, none⟩ = some (.int .i64 8) := (cell_of_block (new_block _ _ _ _) 0).trans rfl
                have q81 : ((wr.setCell ⟨M, 1, none⟩ (.int .i64 ((p : Int) + 1))).alloc (.cells #[.int .i64 8, .int .i64 nn] 174)).cell? ⟨wr.heap.size, 1, none⟩ = some (.int .i64 nn) := (cell_of_block (new_block _ _ _ _) 1).trans rfl
                have HMM := hide (show ((m' : Nat) : Int) = (m : Int) by have := HHM.out; simp at this; omega)
                clear HE HTC
                go_wp2
                go_region_held3 (fun wx => wx.cell? ⟨wr.heap.size, 0, none⟩ = some (.int .i64 8) ∧ wx.cell? ⟨wr.heap.size, 1, none⟩ = some (.int .i64 nn) ∧ wx.cell? ⟨w.heap.size + 1, 8, none⟩ = some (.func (.func 124) #[] #[])) (go_keep) (first | (go_at_call 124; refine HE2.out.mono ?_; rintro e w9 ⟨rfl, hek⟩; have q0 : w9.cell? ⟨wr.heap.size, 0, none⟩ = some (.int .i64 8) := (cell_of_block hek.2.1 0).trans rfl; have q1 : w9.cell? ⟨wr.heap.size, 1, none⟩ = some (.int .i64 nn) := (cell_of_block hek.2.1 1).trans rfl; have q2 : w9.cell? ⟨w.heap.size + 1, 8, none⟩ = some (.func (.func 124) #[] #[]) := (cell_of_block hek.1 8).trans rfl; have HEK := hide hek; clear hek))
                all_goals
                  go_wp2
                  go_roundw
                  case rel => exact HEK.out.rel HMM.out
                  case measure => exact HEK.out.meas HMM.out HK0.out
              · have HE2 : Hid (Calls Tryz.prog 125 #[.pointer (some ⟨M, 0, none⟩), .int .i64 nn] ((((wr.setCell ⟨M, 1, none⟩ (.int .i64 ((p : Int) + 1))).alloc (.cells #[.int .i64 9, .int .i64 nn] 174)).drew).drew) fun e w' => e = .returned .nilIface ∧ NextK B K X ow w M b C n r (w.heap.size + 1) wr.heap.size 9 nn m' kk w') := HE.out
                have qT : ((wr.setCell ⟨M, 1, none⟩ (.int .i64 ((p : Int) + 1))).alloc (.cells #[.int .i64 9, .int .i64 nn] 174)).cell? ⟨w.heap.size + 1, 9, none⟩ = some (.func (.func 125) #[] #[]) := (cell_of_block HTC.out 9).trans rfl
                have q80 : ((wr.setCell ⟨M, 1, none⟩ (.int .i64 ((p : Int) + 1))).alloc (.cells #[.int .i64 9, .int .i64 nn] 174)).cell? ⟨wr.heap.size, 0, none⟩ = some (.int .i64 9) := (cell_of_block (new_block _ _ _ _) 0).trans rfl
                have q81 : ((wr.setCell ⟨M, 1, none⟩ (.int .i64 ((p : Int) + 1))).alloc (.cells #[.int .i64 9, .int .i64 nn] 174)).cell? ⟨wr.heap.size, 1, none⟩ = some (.int .i64 nn) := (cell_of_block (new_block _ _ _ _) 1).trans rfl
                have HMM := hide (show ((m' : Nat) : Int) = (m : Int) by have := HHM.out; simp at this; omega)
                clear HE HTC
                go_wp2
                go_region_held3 (fun wx => wx.cell? ⟨wr.heap.size, 0, none⟩ = some (.int .i64 9) ∧ wx.cell? ⟨wr.heap.size, 1, none⟩ = some (.int .i64 nn) ∧ wx.cell? ⟨w.heap.size + 1, 9, none⟩ = some (.func (.func 125) #[] #[])) (go_keep) (first | (go_at_call 125; refine HE2.out.mono ?_; rintro e w9 ⟨rfl, hek⟩; have q0 : w9.cell? ⟨wr.heap.size, 0, none⟩ = some (.int .i64 9) := (cell_of_block hek.2.1 0).trans rfl; have q1 : w9.cell? ⟨wr.heap.size, 1, none⟩ = some (.int .i64 nn) := (cell_of_block hek.2.1 1).trans rfl; have q2 : w9.cell? ⟨w.heap.size + 1, 9, none⟩ = some (.func (.func 125) #[] #[]) := (cell_of_block hek.1 9).trans rfl; have HEK := hide hek; clear hek))
                all_goals
                  go_wp2
                  go_roundw
                  case rel => exact HEK.out.rel HMM.out
                  case measure => exact HEK.out.meas HMM.out HK0.out
              · have HE2 : Hid (Calls Tryz.prog 126 #[.pointer (some ⟨M, 0, none⟩), .int .i64 nn] ((((wr.setCell ⟨M, 1, none⟩ (.int .i64 ((p : Int) + 1))).alloc (.cells #[.int .i64 10, .int .i64 nn] 174)).drew).drew) fun e w' => e = .returned .nilIface ∧ NextK B K X ow w M b C n r (w.heap.size + 1) wr.heap.size 10 nn m' kk w') := HE.out
                have qT : ((wr.setCell ⟨M, 1, none⟩ (.int .i64 ((p : Int) + 1))).alloc (.cells #[.int .i64 10, .int .i64 nn] 174)).cell? ⟨w.heap.size + 1, 10, none⟩ = some (.func (.func 126) #[] #[]) := (cell_of_block HTC.out 10).trans rfl
                have q80 : ((wr.setCell ⟨M, 1, none⟩ (.int .i64 ((p : Int) + 1))).alloc (.cells #[.int .i64 10, .int .i64 nn] 174)).cell? ⟨wr.heap.size, 0, none⟩ = some (.int .i64 10) := (cell_of_block (new_block _ _ _ _) 0).trans rfl
                have q81 : ((wr.setCell ⟨M, 1, none⟩ (.int .i64 ((p : Int) + 1))).alloc (.cells #[.int .i64 10, .int .i64 nn] 174)).cell? ⟨wr.heap.size, 1, none⟩ = some (.int .i64 nn) := (cell_of_block (new_block _ _ _ _) 1).trans rfl
                have HMM := hide (show ((m' : Nat) : Int) = (m : Int) by have := HHM.out; simp at this; omega)
                clear HE HTC
                go_wp2
                go_region_held3 (fun wx => wx.cell? ⟨wr.heap.size, 0, none⟩ = some (.int .i64 10) ∧ wx.cell? ⟨wr.heap.size, 1, none⟩ = some (.int .i64 nn) ∧ wx.cell? ⟨w.heap.size + 1, 10, none⟩ = some (.func (.func 126) #[] #[])) (go_keep) (first | (go_at_call 126; refine HE2.out.mono ?_; rintro e w9 ⟨rfl, hek⟩; have q0 : w9.cell? ⟨wr.heap.size, 0, none⟩ = some (.int .i64 10) := (cell_of_block hek.2.1 0).trans rfl; have q1 : w9.cell? ⟨wr.heap.size, 1, none⟩ = some (.int .i64 nn) := (cell_of_block hek.2.1 1).trans rfl; have q2 : w9.cell? ⟨w.heap.size + 1, 10, none⟩ = some (.func (.func 126) #[] #[]) := (cell_of_block hek.1 10).trans rfl; have HEK := hide hek; clear hek))
                all_goals
                  go_wp2
                  go_roundw
                  case rel => exact HEK.out.rel HMM.out
                  case measure => exact HEK.out.meas HMM.out HK0.out
              · have HE2 : Hid (Calls Tryz.prog 127 #[.pointer (some ⟨M, 0, none⟩), .int .i64 nn] ((((wr.setCell ⟨M, 1, none⟩ (.int .i64 ((p : Int) + 1))).alloc (.cells #[.int .i64 11, .int .i64 nn] 174)).drew).drew) fun e w' => e = .returned .nilIface ∧ NextK B K X ow w M b C n r (w.heap.size + 1) wr.heap.size 11 nn m' kk w') := HE.out
                have qT : ((wr.setCell ⟨M, 1, none⟩ (.int .i64 ((p : Int) + 1))).alloc (.cells #[.int .i64 11, .int .i64 nn] 174)).cell? ⟨w.heap.size + 1, 11, none⟩ = some (.func (.func 127) #[] #[]) := (cell_of_block HTC.out 11).trans rfl
                have q80 : ((wr.setCell ⟨M, 1, none⟩ (.int .i64 ((p : Int) + 1))).alloc (.cells #[.int .i64 11, .int .i64 nn] 174)).cell? ⟨wr.heap.size, 0, none⟩ = some (.int .i64 11) := (cell_of_block (new_block _ _ _ _) 0).trans rfl
                have q81 : ((wr.setCell ⟨M, 1, none⟩ (.int .i64 ((p : Int) + 1))).alloc (.cells #[.int .i64 11, .int .i64 nn] 174)).cell? ⟨wr.heap.size, 1, none⟩ = some (.int .i64 nn) := (cell_of_block (new_block _ _ _ _) 1).trans rfl
                have HMM := hide (show ((m' : Nat) : Int) = (m : Int) by have := HHM.out; simp at this; omega)
                clear HE HTC
                go_wp2
                go_region_held3 (fun wx => wx.cell? ⟨wr.heap.size, 0, none⟩ = some (.int .i64 11) ∧ wx.cell? ⟨wr.heap.size, 1, none⟩ = some (.int .i64 nn) ∧ wx.cell? ⟨w.heap.size + 1, 11, none⟩ = some (.func (.func 127) #[] #[])) (go_keep) (first | (go_at_call 127; refine HE2.out.mono ?_; rintro e w9 ⟨rfl, hek⟩; have q0 : w9.cell? ⟨wr.heap.size, 0, none⟩ = some (.int .i64 11) := (cell_of_block hek.2.1 0).trans rfl; have q1 : w9.cell? ⟨wr.heap.size, 1, none⟩ = some (.int .i64 nn) := (cell_of_block hek.2.1 1).trans rfl; have q2 : w9.cell? ⟨w.heap.size + 1, 11, none⟩ = some (.func (.func 127) #[] #[]) := (cell_of_block hek.1 11).trans rfl; have HEK := hide hek; clear hek))
                all_goals
                  go_wp2
                  go_roundw
                  case rel => exact HEK.out.rel HMM.out
                  case measure => exact HEK.out.meas HMM.out HK0.out
              · have HE2 : Hid (Calls Tryz.prog 128 #[.pointer (some ⟨M, 0, none⟩), .int .i64 nn] ((((wr.setCell ⟨M, 1, none⟩ (.int .i64 ((p : Int) + 1))).alloc (.cells #[.int .i64 12, .int .i64 nn] 174)).drew).drew) fun e w' => e = .returned .nilIface ∧ NextK B K X ow w M b C n r (w.heap.size + 1) wr.heap.size 12 nn m' kk w') := HE.out
                have qT : ((wr.setCell ⟨M, 1, none⟩ (.int .i64 ((p : Int) + 1))).alloc (.cells #[.int .i64 12, .int .i64 nn] 174)).cell? ⟨w.heap.size + 1, 12, none⟩ = some (.func (.func 128) #[] #[]) := (cell_of_block HTC.out 12).trans rfl
                have q80 : ((wr.setCell ⟨M, 1, none⟩ (.int .i64 ((p : Int) + 1))).alloc (.cells #[.int .i64 12, .int .i64 nn] 174)).cell? ⟨wr.heap.size, 0, none⟩ = some (.int .i64 12) := (cell_of_block (new_block _ _ _ _) 0).trans rfl
                have q81 : ((wr.setCell ⟨M, 1, none⟩ (.int .i64 ((p : Int) + 1))).alloc (.cells #[.int .i64 12, .int .i64 nn] 174)).cell? ⟨wr.heap.size, 1, none⟩ = some (.int .i64 nn) := (cell_of_block (new_block _ _ _ _) 1).trans rfl
                have HMM := hide (show ((m' : Nat) : Int) = (m : Int) + 1 by have := HHM.out; simp at this; omega)
                have bmn : ((m : Int) == (n : Int)) = false := by rw [beq_eq_false_iff_ne]; intro e; exact hbr ⟨rfl, by omega⟩
                clear HE HTC
                go_wp2
                go_region_held3 (fun wx => wx.cell? ⟨wr.heap.size, 0, none⟩ = some (.int .i64 12) ∧ wx.cell? ⟨wr.heap.size, 1, none⟩ = some (.int .i64 nn) ∧ wx.cell? ⟨w.heap.size + 1, 12, none⟩ = some (.func (.func 128) #[] #[])) (go_keep) (first | (go_at_call 128; refine HE2.out.mono ?_; rintro e w9 ⟨rfl, hek⟩; have q0 : w9.cell? ⟨wr.heap.size, 0, none⟩ = some (.int .i64 12) := (cell_of_block hek.2.1 0).trans rfl; have q1 : w9.cell? ⟨wr.heap.size, 1, none⟩ = some (.int .i64 nn) := (cell_of_block hek.2.1 1).trans rfl; have q2 : w9.cell? ⟨w.heap.size + 1, 12, none⟩ = some (.func (.func 128) #[] #[]) := (cell_of_block hek.1 12).trans rfl; have HEK := hide hek; clear hek))
                all_goals
                  go_wp2
                  go_roundw
                  case rel => exact HEK.out.rel HMM.out
                  case measure => exact HEK.out.meas HMM.out HK0.out
              · have HE2 : Hid (Calls Tryz.prog 129 #[.pointer (some ⟨M, 0, none⟩), .int .i64 nn] ((((wr.setCell ⟨M, 1, none⟩ (.int .i64 ((p : Int) + 1))).alloc (.cells #[.int .i64 13, .int .i64 nn] 174)).drew).drew) fun e w' => e = .returned .nilIface ∧ NextK B K X ow w M b C n r (w.heap.size + 1) wr.heap.size 13 nn m' kk w') := HE.out
                have qT : ((wr.setCell ⟨M, 1, none⟩ (.int .i64 ((p : Int) + 1))).alloc (.cells #[.int .i64 13, .int .i64 nn] 174)).cell? ⟨w.heap.size + 1, 13, none⟩ = some (.func (.func 129) #[] #[]) := (cell_of_block HTC.out 13).trans rfl
                have q80 : ((wr.setCell ⟨M, 1, none⟩ (.int .i64 ((p : Int) + 1))).alloc (.cells #[.int .i64 13, .int .i64 nn] 174)).cell? ⟨wr.heap.size, 0, none⟩ = some (.int .i64 13) := (cell_of_block (new_block _ _ _ _) 0).trans rfl
                have q81 : ((wr.setCell ⟨M, 1, none⟩ (.int .i64 ((p : Int) + 1))).alloc (.cells #[.int .i64 13, .int .i64 nn] 174)).cell? ⟨wr.heap.size, 1, none⟩ = some (.int .i64 nn) := (cell_of_block (new_block _ _ _ _) 1).trans rfl
                have HMM := hide (show ((m' : Nat) : Int) = (m : Int) by have := HHM.out; simp at this; omega)
                clear HE HTC
                go_wp2
                go_region_held3 (fun wx => wx.cell? ⟨wr.heap.size, 0, none⟩ = some (.int .i64 13) ∧ wx.cell? ⟨wr.heap.size, 1, none⟩ = some (.int .i64 nn) ∧ wx.cell? ⟨w.heap.size + 1, 13, none⟩ = some (.func (.func 129) #[] #[])) (go_keep) (first | (go_at_call 129; refine HE2.out.mono ?_; rintro e w9 ⟨rfl, hek⟩; have q0 : w9.cell? ⟨wr.heap.size, 0, none⟩ = some (.int .i64 13) := (cell_of_block hek.2.1 0).trans rfl; have q1 : w9.cell? ⟨wr.heap.size, 1, none⟩ = some (.int .i64 nn) := (cell_of_block hek.2.1 1).trans rfl; have q2 : w9.cell? ⟨w.heap.size + 1, 13, none⟩ = some (.func (.func 129) #[] #[]) := (cell_of_block hek.1 13).trans rfl; have HEK := hide hek; clear hek))
                all_goals
                  go_wp2
                  go_roundw
                  case rel => exact HEK.out.rel HMM.out
                  case measure => exact HEK.out.meas HMM.out HK0.out
              · have HE2 : Hid (Calls Tryz.prog 130 #[.pointer (some ⟨M, 0, none⟩), .int .i64 nn] ((((wr.setCell ⟨M, 1, none⟩ (.int .i64 ((p : Int) + 1))).alloc (.cells #[.int .i64 14, .int .i64 nn] 174)).drew).drew) fun e w' => e = .returned .nilIface ∧ NextK B K X ow w M b C n r (w.heap.size + 1) wr.heap.size 14 nn m' kk w') := HE.out
                have qT : ((wr.setCell ⟨M, 1, none⟩ (.int .i64 ((p : Int) + 1))).alloc (.cells #[.int .i64 14, .int .i64 nn] 174)).cell? ⟨w.heap.size + 1, 14, none⟩ = some (.func (.func 130) #[] #[]) := (cell_of_block HTC.out 14).trans rfl
                have q80 : ((wr.setCell ⟨M, 1, none⟩ (.int .i64 ((p : Int) + 1))).alloc (.cells #[.int .i64 14, .int .i64 nn] 174)).cell? ⟨wr.heap.size, 0, none⟩ = some (.int .i64 14) := (cell_of_block (new_block _ _ _ _) 0).trans rfl
                have q81 : ((wr.setCell ⟨M, 1, none⟩ (.int .i64 ((p : Int) + 1))).alloc (.cells #[.int .i64 14, .int .i64 nn] 174)).cell? ⟨wr.heap.size, 1, none⟩ = some (.int .i64 nn) := (cell_of_block (new_block _ _ _ _) 1).trans rfl
                have HMM := hide (show ((m' : Nat) : Int) = (m : Int) by have := HHM.out; simp at this; omega)
                clear HE HTC
                go_wp2
                go_region_held3 (fun wx => wx.cell? ⟨wr.heap.size, 0, none⟩ = some (.int .i64 14) ∧ wx.cell? ⟨wr.heap.size, 1, none⟩ = some (.int .i64 nn) ∧ wx.cell? ⟨w.heap.size + 1, 14, none⟩ = some (.func (.func 130) #[] #[])) (go_keep) (first | (go_at_call 130; refine HE2.out.mono ?_; rintro e w9 ⟨rfl, hek⟩; have q0 : w9.cell? ⟨wr.heap.size, 0, none⟩ = some (.int .i64 14) := (cell_of_block hek.2.1 0).trans rfl; have q1 : w9.cell? ⟨wr.heap.size, 1, none⟩ = some (.int .i64 nn) := (cell_of_block hek.2.1 1).trans rfl; have q2 : w9.cell? ⟨w.heap.size + 1, 14, none⟩ = some (.func (.func 130) #[] #[]) := (cell_of_block hek.1 14).trans rfl; have HEK := hide hek; clear hek))
                all_goals
                  go_wp2
                  go_roundw
                  case rel => exact HEK.out.rel HMM.out
                  case measure => exact HEK.out.meas HMM.out HK0.out
          · rw [hst, if_neg hnn] at hgo; cases hgo
    · have hME' := hME
      obtain ⟨out, hM, _⟩ := hME
      obtain ⟨c0, c1, c2, c3, c4, c5, c6, c7, c8, c9, c10, c11⟩ := mc_cell hM
      have HR := hide (running_raw wr M 1 c8)
      have HF : Hid (GoPost B K X ow w M b C r (.returned (.tuple #[.int .i64 (m : Nat), .nilIface])) wr) := by
        subst hr
        exact ⟨_, rfl, rfl, X', ow', hME', hG⟩
      clear c0 c1 c2 c3 c4 c5 c6 c7 c8 c9 c10 c11 hM hG hTb
      go_wp2_with fail
      refine HR.out.mono ?_
      rintro e wx ⟨rfl, hwx⟩
      obtain rfl : wr = wx := hwx.symm
      go_wp2
      go_ret2
      exact HF.out
end Go.Proofs.YtlobegpjenabaaaGreatDoor
