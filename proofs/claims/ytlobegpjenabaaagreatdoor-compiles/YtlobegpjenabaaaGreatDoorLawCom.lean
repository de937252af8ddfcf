/- code: within, choice, application, sequence, given put. -/
import Derived.Test.YtlobegpjenabaaaGreatDoorCodLam
import Derived.Test.YtlobegpjenabaaaGreatDoorRefComp
namespace Go.Proofs.YtlobegpjenabaaaGreatDoor
open Go.RowKit Go.Maps
set_option linter.unusedSimpArgs false
set_option linter.unusedVariables false

theorem EV.chg {B n : Nat} {w w' : World} {v : Value} (h : EV w (fun g => g < B) n v) (hc : Chg B w w') : EV w' (fun g => g < B) n v := h.imp fun g o hg ho => ⟨by rw [hc.below.block g hg]; exact ho, hg⟩
theorem EVs.chg {B n : Nat} {w w' : World} {v : List Value} (h : EVs w (fun g => g < B) n v) (hc : Chg B w w') : EVs w' (fun g => g < B) n v := h.imp fun g o hg ho => ⟨by rw [hc.below.block g hg]; exact ho, hg⟩
theorem EV.pos {w : World} {P : Nat → Prop} {n : Nat} {v : Value} (h : EV w P n v) : 1 ≤ n := by cases h <;> omega
theorem Bd.le {w : World} {B b nI K : Nat} {bs : List Value} (h : Bd w B b nI K bs) : B ≤ w.heap.size := by
  obtain ⟨u0, u1, u2, u3, m, u5, nC, nN, x0, x1, x2, x3, h, hk⟩ := h
  exact Nat.le_of_lt (Nat.lt_of_le_of_lt h.hb (lt_of_some h.hS))
theorem Bd.mono {w : World} {B b nI K K' : Nat} {bs : List Value} (h : Bd w B b nI K bs) (hK : K ≤ K') : Bd w B b nI K' bs := by
  obtain ⟨u0, u1, u2, u3, m, u5, nC, nN, x0, x1, x2, x3, h, hk⟩ := h
  exact ⟨u0, u1, u2, u3, m, u5, nC, nN, x0, x1, x2, x3, h, by omega⟩

/-- What has come of a builder: more instructions, more bodies, at a cost of c. -/
def Fed (w' : World) (B b nI K : Nat) (bs : List Value) (c : Nat) : Prop :=
  ∃ nI' K' bs' k', nI ≤ nI' ∧ Bd w' B b nI' K' (bs ++ bs') ∧ EVs w' (fun g => g < B) k' bs' ∧ K' + 8 * k' ≤ K + c
def PutPost (w : World) (B b nI K : Nat) (bs : List Value) (c : Nat) (e : Ending) (w' : World) : Prop :=
  e = .returned (.tuple #[]) ∧ Fed w' B b nI K bs c ∧ Chg B w w'
/-- The contract of put, up to a weight. -/
def PutC (N : Nat) : Prop := ∀ (n : Nat) (w : World) (v : Value) (B b nI K : Nat) (bs : List Value) (last : Bool), n ≤ N → EV w (fun g => g < B) n v → Bd w B b nI K bs → K + (8 * n - 1) ≤ 1048576 → Calls Tryz.prog 97 #[.pointer (some ⟨b, 0, none⟩), v, .bool last] w (PutPost w B b nI K bs (8 * n - 1))

theorem Fed.refl {w : World} {B b nI K : Nat} {bs : List Value} (h : Bd w B b nI K bs) (c : Nat) : Fed w B b nI K bs c := ⟨nI, K, [], 0, Nat.le_refl _, by rwa [List.append_nil], .nil, by omega⟩
/-- One after another. -/
theorem Fed.then {w1 w2 : World} {B b nI K c c' : Nat} {bs : List Value} (h : Fed w1 B b nI K bs c) (hc : Chg B w1 w2) (hn : ∀ nI' K' bs', nI ≤ nI' → K' ≤ K + c → Bd w1 B b nI' K' bs' → Fed w2 B b nI' K' bs' c') : Fed w2 B b nI K bs (c + c') := by
  obtain ⟨nI1, K1, b1, k1, h1, h2, h3, h4⟩ := h
  obtain ⟨nI2, K2, b2, k2, g1, g2, g3, g4⟩ := hn nI1 K1 _ h1 (by omega) h2
  exact ⟨nI2, K2, b1 ++ b2, k1 + k2, by omega, by rw [← List.append_assoc]; exact g2, (h3.chg hc).append g3, by omega⟩
theorem Fed.mono {w : World} {B b nI K c c' : Nat} {bs : List Value} (h : Fed w B b nI K bs c) (hc : c ≤ c') : Fed w B b nI K bs c' := by
  obtain ⟨nI1, K1, b1, k1, h1, h2, h3, h4⟩ := h
  exact ⟨nI1, K1, b1, k1, h1, h2, h3, by omega⟩
/-- Behind one that adds k things. -/
theorem Fed.add {w : World} {B b nI nI' K k : Nat} {bs : List Value} (h : Bd w B b nI' (K + k) bs) (hn : nI ≤ nI') : Fed w B b nI K bs k := ⟨nI', K + k, [], 0, hn, by rwa [List.append_nil], .nil, by omega⟩

set_option maxHeartbeats 2000000 in
theorem within_go (N : Nat) (hp : PutC N) (n : Nat) (op : Int) (w : World) (v : Value) (B b nI K : Nat) (bs : List Value) (hn : n ≤ N) (hv : EV w (fun g => g < B) n v) (h : Bd w B b nI K bs) (hK : K + 8 * n ≤ 1048576) :
    Calls Tryz.prog 155 #[.pointer (some ⟨b, 0, none⟩), .int .i64 op, v] w (PutPost w B b nI K bs (8 * n)) := by
  have hpos := hv.pos
  have HE := hide (emit_go op 0 h (by omega))
  have HP := hide (fun (w1 : World) (hc : Chg B w w1) (h1 : Bd w1 B b (nI + 1) (K + 1) bs) => hp n w1 v B b (nI + 1) (K + 1) bs false hn (hv.chg hc) h1)
  obtain ⟨t, x, rfl⟩ := hv.form
  clear hp hv h
  have hKK : K + 1 + (8 * n - 1) ≤ 1048576 := by omega
  go_enter Tryz.func155, Tryz.ntmps155
  go_wp2_with fail
  refine HE.out.mono ?_
  rintro e w1 ⟨rfl, hb1, hc1⟩
  have HB1 := hide hb1
  have HC1 := hide hc1
  clear hb1 hc1 HE
  go_wp2_with fail
  refine (HP.out _ HC1.out HB1.out hKK).mono ?_
  rintro e w2 ⟨rfl, ⟨nI', K', bs', k', q1, q2, q3, q4⟩, hc2⟩
  have HC2 := hide (HC1.out.trans hc2)
  have HQ := hide q2
  have HQ3 := hide q3
  have hnI : nI < nI' := by omega
  have HPH := hide (pointHere_go nI hnI q2 (by omega))
  clear hc2 HP q2 q3
  go_wp2_with fail
  refine HPH.out.mono ?_
  rintro e w3 ⟨rfl, hb3, hc3⟩
  have HF := hide (show PutPost w B b nI K bs (8 * n) (.returned (.tuple #[])) w3 from ⟨rfl, ⟨nI', K', bs', k', by omega, hb3, HQ3.out.chg hc3, by omega⟩, HC2.out.trans hc3⟩)
  clear hb3 hc3 HPH
  go_wp2
  refine bodyPost_ret (results_none rfl _ _ _) rfl ?_
  exact HF.out

set_option maxRecDepth 100000 in
set_option maxHeartbeats 2000000 in
theorem choice_code (N : Nat) (hp : PutC N) (n1 n2 n3 : Nat) (w : World) (v1 v2 v3 : Value) (B b nI K : Nat) (bs : List Value) (hn : n1 + n2 + n3 ≤ N) (h1 : EV w (fun g => g < B) n1 v1) (h2 : EV w (fun g => g < B) n2 v2) (h3 : EV w (fun g => g < B) n3 v3) (h : Bd w B b nI K bs) (hK : K + 8 * (n1 + n2 + n3 + 1) - 1 ≤ 1048576) :
    Calls Tryz.prog 156 #[.pointer (some ⟨b, 0, none⟩), .agg #[v1, v2, v3]] w (PutPost w B b nI K bs (8 * (n1 + n2 + n3 + 1) - 1)) := by
  have hp1 := h1.pos
  have hp2 := h2.pos
  have hp3 := h3.pos
  have HW := hide (within_go N hp)
  have HPT := hide hp
  have HV := hide (And.intro h1 (And.intro h2 h3))
  obtain ⟨t1, x1, rfl⟩ := h1.form
  obtain ⟨t2, x2, rfl⟩ := h2.form
  obtain ⟨t3, x3, rfl⟩ := h3.form
  have hBw := h.le
  obtain ⟨W0, hW0⟩ : ∃ W0, W0 = w.alloc (.cells #[.iface t1 x1, .iface t2 x2, .iface t3 x3] 261) := ⟨_, rfl⟩
  have hL : W0.heap[w.heap.size]? = some (Obj.cells #[.iface t1 x1, .iface t2 x2, .iface t3 x3] 261 (0, 0)) := by rw [hW0]; exact Array.getElem?_push_size
  have hb0 : Below w.heap.size w W0 := by rw [hW0]; exact (Below.refl _ _).alloc (Nat.le_refl _) _
  have HL := hide hL
  have HC0 := hide (Chg.new hBw hb0)
  have HBD0 := hide (h.below hb0)
  clear h1 h2 h3 hp h hb0
  go_enter Tryz.func156, Tryz.ntmps156
  go_wp2_with fail
  rw [← hW0]
  clear hW0 hL
  refine (HW.out n1 4 W0 _ B b nI K bs (by omega) (HV.out.1.chg HC0.out) HBD0.out (by omega)).mono ?_
  rintro e w1 ⟨rfl, hf1, hc1⟩
  have HF1 := hide hf1
  have HC1 := hide (HC0.out.trans hc1)
  have HL1 := hide (hc1.kp 261 rfl _ _ HL.out)
  obtain ⟨nI1, K1, b1, k1, q1, q2, q3, q4⟩ := hf1
  have HE := hide (emit_go 8 0 q2 (by omega))
  have HQ3 := hide q3
  have d1 := cell_of_block HL1.out 1
  have d2 := cell_of_block HL1.out 2
  simp only [List.getElem?_toArray, List.getElem?_cons_zero, List.getElem?_cons_succ] at d1 d2
  clear hc1 q2 q3 HL HF1
  go_wp2_with fail
  refine HE.out.mono ?_
  rintro e w2 ⟨rfl, hb2, hc2⟩
  have HC2 := hide (HC1.out.trans hc2)
  have HL2 := hide (hc2.kp 261 rfl _ _ HL1.out)
  have HB2 := hide hb2
  have HQ32 := hide (HQ3.out.chg hc2)
  clear hc2 hb2 HL1 d1 d2 HE HQ3
  have d1 := cell_of_block HL2.out 1
  simp only [List.getElem?_toArray, List.getElem?_cons_zero, List.getElem?_cons_succ] at d1
  go_wp2_with fail
  refine (HPT.out n2 w2 _ B b (nI1 + 1) (K1 + 1) (bs ++ b1) true (by omega) (HV.out.2.1.chg HC2.out) HB2.out (by omega)).mono ?_
  rintro e w3 ⟨rfl, ⟨nI3, K3, b3, k3, r1, r2, r3, r4⟩, hc3⟩
  have HC3 := hide (HC2.out.trans hc3)
  have HL3 := hide (hc3.kp 261 rfl _ _ HL2.out)
  have HPH := hide (pointHere_go nI1 (by omega) r2 (by omega))
  have HQ33 := hide (And.intro (HQ32.out.chg hc3) r3)
  clear hc3 r2 r3 HL2 d1 HQ32 HB2
  go_wp2_with fail
  refine HPH.out.mono ?_
  rintro e w4 ⟨rfl, hb4, hc4⟩
  have HC4 := hide (HC3.out.trans hc4)
  have HL4 := hide (hc4.kp 261 rfl _ _ HL3.out)
  have HB4 := hide hb4
  have HQ34 := hide (And.intro (HQ33.out.1.chg hc4) (HQ33.out.2.chg hc4))
  clear hc4 hb4 HL3 HPH HQ33
  have d2 := cell_of_block HL4.out 2
  simp only [List.getElem?_toArray, List.getElem?_cons_zero, List.getElem?_cons_succ] at d2
  go_wp2_with fail
  refine (HPT.out n3 w4 _ B b nI3 K3 (bs ++ b1 ++ b3) true (by omega) (HV.out.2.2.chg HC4.out) HB4.out (by omega)).mono ?_
  rintro e w5 ⟨rfl, ⟨nI5, K5, b5, k5, s1, s2, s3, s4⟩, hc5⟩
  have HF := hide (show PutPost w B b nI K bs (8 * (n1 + n2 + n3 + 1) - 1) (.returned (.tuple #[])) w5 from
    ⟨rfl, ⟨nI5, K5, b1 ++ (b3 ++ b5), k1 + (k3 + k5), by omega, by rw [← List.append_assoc, ← List.append_assoc]; exact s2, (HQ34.out.1.chg hc5).append ((HQ34.out.2.chg hc5).append s3), by omega⟩, HC4.out.trans hc5⟩)
  clear s2 s3 hc5 HQ34 HL4 d2 HB4
  go_wp2
  refine bodyPost_ret (results_none rfl _ _ _) rfl ?_
  exact HF.out
end Go.Proofs.YtlobegpjenabaaaGreatDoor

/- code: application, sequence, given put. -/
namespace Go.Proofs.YtlobegpjenabaaaGreatDoor
open Go.RowKit Go.Maps
set_option linter.unusedSimpArgs false
set_option linter.unusedVariables false

theorem EVs.split {w : World} {P : Nat → Prop} {n : Nat} {es : List Value} (h : EVs w P n es) : ∃ ws : List Nat, ws.length = es.length ∧ ws.sum = n ∧ ∀ k (hk : k < es.length) (hk' : k < ws.length), EV w P ws[k] es[k] := by
  induction es generalizing n with
  | nil => cases h; exact ⟨[], rfl, rfl, fun k hk => absurd hk (by simp)⟩
  | cons e r ih =>
    cases h with
    | @cons a b _ _ x y =>
      obtain ⟨ws, h1, h2, h3⟩ := ih y
      refine ⟨a :: ws, by simp [h1], by simp [h2], fun k hk hk' => ?_⟩
      cases k with
      | zero => exact x
      | succ k => exact h3 k (by simpa using hk) (by simpa using hk')
theorem sum_take (ws : List Nat) (k : Nat) (hk : k < ws.length) : (ws.take (k + 1)).sum = (ws.take k).sum + ws[k] := by
  rw [List.take_succ_eq_append_getElem hk, List.sum_append]; simp
theorem sum_take_le : ∀ (ws : List Nat) (k : Nat), (ws.take k).sum ≤ ws.sum
  | [], k => by simp
  | a :: r, 0 => by simp
  | a :: r, k + 1 => by have := sum_take_le r k; simp; omega

/-- The parts of a row, at any place. -/
theorem rowE_at {w : World} {B n : Nat} {u : Value} {es : List Value} (hr : RowE w (fun g => g < B) u es) (he : EVs w (fun g => g < B) n es) : ∃ a cap ws, u = .slice a es.length cap ∧ es.length ≤ cap ∧ cap ≤ maxLen ∧ List.length ws = es.length ∧ List.sum ws = n ∧
    ∀ k (hk : k < es.length) (hk' : k < ws.length), ∃ g t x, a = some ⟨g, 0, none⟩ ∧ g < B ∧ w.cell? ⟨g, k, none⟩ = some (.iface t x) ∧ EV w (fun g => g < B) ws[k] (.iface t x) := by
  obtain ⟨a, cap, rfl, hc1, hc2, hat⟩ := ownsRow_slice hr.1
  obtain ⟨ws, h1, h2, h3⟩ := he.split
  refine ⟨a, cap, ws, rfl, hc1, hc2, h1, h2, fun k hk hk' => ?_⟩
  obtain ⟨g, rfl, _, hg, hc⟩ := hat (by omega)
  have h4 := h3 k hk hk'
  obtain ⟨t, x, hx⟩ := h4.form
  rw [hx] at h4
  exact ⟨g, t, x, rfl, hr.2 g rfl, hc k _ (by rw [List.getElem?_eq_getElem hk, hx]), h4⟩

set_option maxRecDepth 100000 in
set_option maxHeartbeats 2000000 in
theorem application_code (N : Nat) (hp : PutC N) (n : Nat) (w : World) (u : Value) (es : List Value) (B b nI K : Nat) (bs : List Value) (hn : n ≤ N) (hr : RowE w (fun g => g < B) u es) (he : EVs w (fun g => g < B) n es) (h : Bd w B b nI K bs) (hK : K + 8 * (n + 1) - 1 ≤ 1048576) (hel : es.length ≤ 1048576) :
    Calls Tryz.prog 158 #[.pointer (some ⟨b, 0, none⟩), .agg #[u]] w (PutPost w B b nI K bs (8 * (n + 1) - 1)) := by
  obtain ⟨a, cap, ws, rfl, hc1, hc2, hwl, hws, hat⟩ := rowE_at hr he
  unfold maxLen at hc2
  have HAT := hide hat
  have HWL := hide hwl
  have HWS := hide hws
  have HW := hide (within_go N hp)
  have hBw := h.le
  obtain ⟨W0, hW0⟩ : ∃ W0, W0 = w.alloc (.cells #[.slice a es.length cap] 273) := ⟨_, rfl⟩
  have hb0 : Below w.heap.size w W0 := by rw [hW0]; exact (Below.refl _ _).alloc (Nat.le_refl _) _
  have HC0 := hide (Chg.new hBw hb0)
  have HBD0 := hide (h.below hb0)
  clear hat hwl hws hr he hp h hb0
  go_enter Tryz.func158, Tryz.ntmps158
  go_wp2
  rw [← hW0]
  clear hW0
  go_loopw [4, 10] (fun o i wr => ∃ k : Nat, k ≤ es.length ∧ i = .int .i64 k ∧ (∃ q : Int, o = .int .i64 q) ∧ Fed wr B b nI K bs (8 * (ws.take k).sum) ∧ Chg B W0 wr) (fun _ i _ => es.length - (intOf i).toNat)
  case atStart => exact ⟨0, Nat.zero_le _, rfl, ⟨_, rfl⟩, Fed.refl HBD0.out _, Chg.refl _ _⟩
  case round =>
    obtain ⟨k, hk, rfl, ⟨q, rfl⟩, hf, hch⟩ := hrel
    have HF := hide hf
    have HCH := hide hch
    have HCW := hide (HC0.out.trans hch)
    by_cases hlt : k < es.length
    · have hltw : k < ws.length := by rw [HWL.out]; exact hlt
      obtain ⟨g, t, x, rfl, hgB, c0, hev⟩ := HAT.out k hlt hltw
      have d0 : wr.cell? ⟨g, k, none⟩ = some (.iface t x) := by rw [HCW.out.below.cell (p := ⟨g, k, none⟩) hgB]; exact c0
      have hs1 := sum_take ws k hltw
      have hs2 := sum_take_le ws (k + 1)
      obtain ⟨nI1, K1, b1, k1, q1, q2, q3, q4⟩ := hf
      have HWI := hide (HW.out ws[k] q wr (.iface t x) B b nI1 K1 (bs ++ b1) (by have := HWS.out; omega) (hev.chg HCW.out) q2 (by have := HWS.out; omega))
      have HQ := hide q3
      have HQ4 := hide (And.intro q1 (And.intro q4 hs1))
      clear hch c0 hev q2 q3 hs1 hs2 q4 q1 HF
      go_wp2_with fail
      refine HWI.out.mono ?_
      rintro e w2 ⟨rfl, ⟨nI2, K2, b2, k2, r1, r2, r3, r4⟩, hc2'⟩
      have HFF := hide (show Fed w2 B b nI K bs (8 * (ws.take (k + 1)).sum) from ⟨nI2, K2, b1 ++ b2, k1 + k2, by have := HQ4.out; omega, by rw [← List.append_assoc]; exact r2, (HQ.out.chg hc2').append r3, by have := HQ4.out; omega⟩)
      have HC2 := hide (HCH.out.trans hc2')
      clear r1 r2 r3 r4 hc2' HWI HQ HQ4
      go_wp2
      go_roundw
      case rel => exact ⟨k + 1, by omega, rfl, ⟨_, rfl⟩, HFF.out, HC2.out⟩
      case measure => simp [intOf]; omega
    · have hke : k = es.length := by omega
      subst hke
      obtain ⟨nI1, K1, b1, k1, q1, q2, q3, q4⟩ := hf
      have hs2 := sum_take_le ws es.length
      have HQ := hide q3
      have hq4 : K1 + 8 * k1 ≤ K + 8 * n := by have := HWS.out; omega
      have HE := hide (emit_go 11 0 q2 (by omega))
      clear hch q2 q3 hs2 q4 HF
      go_wp2_with fail
      refine HE.out.mono ?_
      rintro e w2 ⟨rfl, hb2, hc2'⟩
      have HE2 := hide (emit_go 12 0 hb2 (by omega))
      have HC2 := hide (HCW.out.trans hc2')
      have HQ2 := hide (HQ.out.chg hc2')
      clear hb2 hc2' HE HQ
      go_wp2_with fail
      refine HE2.out.mono ?_
      rintro e w3 ⟨rfl, hb3, hc3⟩
      have HFF := hide (show PutPost w B b nI K bs (8 * (n + 1) - 1) (.returned (.tuple #[])) w3 from ⟨rfl, ⟨nI1 + 1 + 1, K1 + 1 + 1, b1, k1, by omega, hb3, HQ2.out.chg hc3, by omega⟩, HC2.out.trans hc3⟩)
      clear hb3 hc3 HE2 HQ2
      go_wp2
      refine bodyPost_ret (results_none rfl _ _ _) rfl ?_
      exact HFF.out

set_option maxRecDepth 100000 in
set_option maxHeartbeats 2000000 in
theorem sequence_code (N : Nat) (hp : PutC N) (n : Nat) (w : World) (u : Value) (es : List Value) (B b nI K : Nat) (bs : List Value) (last : Bool) (hn : n ≤ N) (hr : RowE w (fun g => g < B) u es) (he : EVs w (fun g => g < B) n es) (h : Bd w B b nI K bs) (hK : K + 8 * (n + 1) - 1 ≤ 1048576) (hel : es.length ≤ 1048576) (hpos : 1 ≤ es.length) :
    Calls Tryz.prog 157 #[.pointer (some ⟨b, 0, none⟩), .agg #[u], .bool last] w (PutPost w B b nI K bs (8 * (n + 1) - 1)) := by
  obtain ⟨a, cap, ws, rfl, hc1, hc2, hwl, hws, hat⟩ := rowE_at hr he
  unfold maxLen at hc2
  have HAT := hide hat
  have HWL := hide hwl
  have HWS := hide hws
  have HW := hide (within_go N hp)
  have HPT := hide hp
  have hBw := h.le
  obtain ⟨f, hf⟩ : ∃ f, es.length = f + 1 := ⟨es.length - 1, by omega⟩
  have HFE := hide hf
  rw [hf] at hc1 hel
  rw [hf]
  obtain ⟨W0, hW0⟩ : ∃ W0, W0 = w.alloc (.cells #[.slice a (f + 1) cap] 269) := ⟨_, rfl⟩
  have hL : W0.heap[w.heap.size]? = some (Obj.cells #[.slice a (f + 1) cap] 269 (0, 0)) := by rw [hW0]; exact Array.getElem?_push_size
  have hb0 : Below w.heap.size w W0 := by rw [hW0]; exact (Below.refl _ _).alloc (Nat.le_refl _) _
  have HL := hide hL
  have HC0 := hide (Chg.new hBw hb0)
  have HBD0 := hide (h.below hb0)
  clear hat hwl hws hr he hp h hb0 hf hL hpos
  have b1 : (0 : Int) ≤ (f : Int) := by omega
  have b2 : (f : Int) ≤ (cap : Int) := by omega
  go_enter Tryz.func157, Tryz.ntmps157
  go_wp2
  rw [← hW0]
  clear hW0
  go_loopw [7, 19] (fun o i wr => ∃ k : Nat, k ≤ f ∧ i = .int .i64 k ∧ (∃ q : Int, o = .int .i64 q) ∧ Fed wr B b nI K bs (8 * (ws.take k).sum) ∧ Chg B W0 wr) (fun _ i _ => f - (intOf i).toNat)
  case atStart => exact ⟨0, Nat.zero_le _, rfl, ⟨_, rfl⟩, Fed.refl HBD0.out _, Chg.refl _ _⟩
  case round =>
    obtain ⟨k, hk, rfl, ⟨q, rfl⟩, hf, hch⟩ := hrel
    have HF := hide hf
    have HCH := hide hch
    have HCW := hide (HC0.out.trans hch)
    by_cases hlt : k < f
    · have hlte : k < es.length := by rw [HFE.out]; omega
      have hltw : k < ws.length := by rw [HWL.out]; exact hlte
      obtain ⟨g, t, x, rfl, hgB, c0, hev⟩ := HAT.out k hlte hltw
      have d0 : wr.cell? ⟨g, k, none⟩ = some (.iface t x) := by rw [HCW.out.below.cell (p := ⟨g, k, none⟩) hgB]; exact c0
      have hs1 := sum_take ws k hltw
      have hs2 := sum_take_le ws (k + 1)
      obtain ⟨nI1, K1, b1, k1, q1, q2, q3, q4⟩ := hf
      have HWI := hide (HW.out ws[k] q wr (.iface t x) B b nI1 K1 (bs ++ b1) (by have := HWS.out; omega) (hev.chg HCW.out) q2 (by have := HWS.out; omega))
      have HQ := hide q3
      have HQ4 := hide (And.intro q1 (And.intro q4 hs1))
      clear hch c0 hev q2 q3 hs1 hs2 q4 q1 HF hlte
      go_wp2_with fail
      refine HWI.out.mono ?_
      rintro e w2 ⟨rfl, ⟨nI2, K2, b2, k2, r1, r2, r3, r4⟩, hc2'⟩
      have HFF := hide (show Fed w2 B b nI K bs (8 * (ws.take (k + 1)).sum) from ⟨nI2, K2, b1 ++ b2, k1 + k2, by have := HQ4.out; omega, by rw [← List.append_assoc]; exact r2, (HQ.out.chg hc2').append r3, by have := HQ4.out; omega⟩)
      have HC2 := hide (HCH.out.trans hc2')
      clear r1 r2 r3 r4 hc2' HWI HQ HQ4
      go_wp2
      go_roundw
      case rel => exact ⟨k + 1, by omega, rfl, ⟨_, rfl⟩, HFF.out, HC2.out⟩
      case measure => simp [intOf]; omega
    · have hke : k = f := by omega
      subst hke
      have hlte : k < es.length := by rw [HFE.out]; omega
      have hltw : k < ws.length := by rw [HWL.out]; exact hlte
      obtain ⟨g, t, x, rfl, hgB, c0, hev⟩ := HAT.out k hlte hltw
      obtain ⟨nI1, K1, b1, k1, q1, q2, q3, q4⟩ := hf
      have hs1 := sum_take ws k hltw
      have hs2 := sum_take_le ws (k + 1)
      have HQ := hide q3
      have HS := hide (show K1 + 8 * k1 + 8 * ws[k] ≤ K + 8 * n ∧ ws[k] ≤ N ∧ 1 ≤ ws[k] from by have := HWS.out; have := hev.pos; omega)
      have HE := hide (emit_go 7 0 q2 (by have := HS.out; omega))
      have HEV := hide hev
      have HLW := hide (hch.kp 269 rfl _ _ HL.out)
      clear hch q2 q3 hs2 hs1 q4 HF hev hlte
      go_wp2_with fail
      refine HE.out.mono ?_
      rintro e w2 ⟨rfl, hb2, hc2'⟩
      have HC2 := hide (HCW.out.trans hc2')
      have HQ2 := hide (HQ.out.chg hc2')
      have l0 := cell_of_block (hc2'.kp 269 rfl _ _ HLW.out) 0
      simp only [List.getElem?_toArray, List.getElem?_cons_zero] at l0
      have d0 : w2.cell? ⟨g, k, none⟩ = some (.iface t x) := by rw [HC2.out.below.cell (p := ⟨g, k, none⟩) hgB]; exact c0
      have HP := hide (HPT.out ws[k] w2 (.iface t x) B b (nI1 + 1) (K1 + 1) (bs ++ b1) last HS.out.2.1 (HEV.out.chg HC2.out) hb2 (by have := HS.out; omega))
      clear hb2 hc2' HE HQ c0 HPT
      go_wp2_with fail
      refine HP.out.mono ?_
      rintro e w3 ⟨rfl, ⟨nI3, K3, b3, k3, r1, r2, r3, r4⟩, hc3⟩
      have HFF := hide (show PutPost w B b nI K bs (8 * (n + 1) - 1) (.returned (.tuple #[])) w3 from ⟨rfl, ⟨nI3, K3, b1 ++ b3, k1 + k3, by omega, by rw [← List.append_assoc]; exact r2, (HQ2.out.chg hc3).append r3, by have := HS.out; omega⟩, HC2.out.trans hc3⟩)
      clear r2 r3 hc3 HP HQ2
      go_wp2
      refine bodyPost_ret (results_none rfl _ _ _) rfl ?_
      exact HFF.out
end Go.Proofs.YtlobegpjenabaaaGreatDoor

/- code: put. -/
namespace Go.Proofs.YtlobegpjenabaaaGreatDoor
open Go.RowKit Go.Maps
set_option linter.unusedSimpArgs false
set_option linter.unusedVariables false

theorem is_Const (a : Value) (w : World) : (Instr.typeAssert (.iface 133 (.agg #[a])) 83 133 true).run Tryz.prog w = .ok (.tuple #[.agg #[a], .bool true]) w := by kernel_rfl
theorem is_Var (a : Value) (w : World) : (Instr.typeAssert (.iface 202 (.agg #[a])) 83 202 true).run Tryz.prog w = .ok (.tuple #[.agg #[a], .bool true]) w := by kernel_rfl
theorem is_Define (a b : Value) (w : World) : (Instr.typeAssert (.iface 279 (.agg #[a, b])) 83 279 true).run Tryz.prog w = .ok (.tuple #[.agg #[a, b], .bool true]) w := by kernel_rfl
theorem is_Set (a b : Value) (w : World) : (Instr.typeAssert (.iface 267 (.agg #[a, b])) 83 267 true).run Tryz.prog w = .ok (.tuple #[.agg #[a, b], .bool true]) w := by kernel_rfl
theorem is_If (a b c : Value) (w : World) : (Instr.typeAssert (.iface 261 (.agg #[a, b, c])) 83 261 true).run Tryz.prog w = .ok (.tuple #[.agg #[a, b, c], .bool true]) w := by kernel_rfl
theorem is_Seq (a : Value) (w : World) : (Instr.typeAssert (.iface 269 (.agg #[a])) 83 269 true).run Tryz.prog w = .ok (.tuple #[.agg #[a], .bool true]) w := by kernel_rfl
theorem is_Apply (a : Value) (w : World) : (Instr.typeAssert (.iface 273 (.agg #[a])) 83 273 true).run Tryz.prog w = .ok (.tuple #[.agg #[a], .bool true]) w := by kernel_rfl
theorem to_Const_Var (v : Value) (w : World) : (Instr.typeAssert (.iface 202 v) 83 133 true).run Tryz.prog w = .ok (.tuple #[.agg #[.nilIface], .bool false]) w := by kernel_rfl
theorem to_Const_Lambda (v : Value) (w : World) : (Instr.typeAssert (.iface 277 v) 83 133 true).run Tryz.prog w = .ok (.tuple #[.agg #[.nilIface], .bool false]) w := by kernel_rfl
theorem to_Const_Define (v : Value) (w : World) : (Instr.typeAssert (.iface 279 v) 83 133 true).run Tryz.prog w = .ok (.tuple #[.agg #[.nilIface], .bool false]) w := by kernel_rfl
theorem to_Const_Set (v : Value) (w : World) : (Instr.typeAssert (.iface 267 v) 83 133 true).run Tryz.prog w = .ok (.tuple #[.agg #[.nilIface], .bool false]) w := by kernel_rfl
theorem to_Const_If (v : Value) (w : World) : (Instr.typeAssert (.iface 261 v) 83 133 true).run Tryz.prog w = .ok (.tuple #[.agg #[.nilIface], .bool false]) w := by kernel_rfl
theorem to_Const_Seq (v : Value) (w : World) : (Instr.typeAssert (.iface 269 v) 83 133 true).run Tryz.prog w = .ok (.tuple #[.agg #[.nilIface], .bool false]) w := by kernel_rfl
theorem to_Const_Apply (v : Value) (w : World) : (Instr.typeAssert (.iface 273 v) 83 133 true).run Tryz.prog w = .ok (.tuple #[.agg #[.nilIface], .bool false]) w := by kernel_rfl
theorem to_Var_Lambda (v : Value) (w : World) : (Instr.typeAssert (.iface 277 v) 83 202 true).run Tryz.prog w = .ok (.tuple #[.agg #[.string ⟨#[]⟩], .bool false]) w := by kernel_rfl
theorem to_Var_Define (v : Value) (w : World) : (Instr.typeAssert (.iface 279 v) 83 202 true).run Tryz.prog w = .ok (.tuple #[.agg #[.string ⟨#[]⟩], .bool false]) w := by kernel_rfl
theorem to_Var_Set (v : Value) (w : World) : (Instr.typeAssert (.iface 267 v) 83 202 true).run Tryz.prog w = .ok (.tuple #[.agg #[.string ⟨#[]⟩], .bool false]) w := by kernel_rfl
theorem to_Var_If (v : Value) (w : World) : (Instr.typeAssert (.iface 261 v) 83 202 true).run Tryz.prog w = .ok (.tuple #[.agg #[.string ⟨#[]⟩], .bool false]) w := by kernel_rfl
theorem to_Var_Seq (v : Value) (w : World) : (Instr.typeAssert (.iface 269 v) 83 202 true).run Tryz.prog w = .ok (.tuple #[.agg #[.string ⟨#[]⟩], .bool false]) w := by kernel_rfl
theorem to_Var_Apply (v : Value) (w : World) : (Instr.typeAssert (.iface 273 v) 83 202 true).run Tryz.prog w = .ok (.tuple #[.agg #[.string ⟨#[]⟩], .bool false]) w := by kernel_rfl
theorem to_Define_Set (v : Value) (w : World) : (Instr.typeAssert (.iface 267 v) 83 279 true).run Tryz.prog w = .ok (.tuple #[.agg #[.string ⟨#[]⟩, .nilIface], .bool false]) w := by kernel_rfl
theorem to_Define_If (v : Value) (w : World) : (Instr.typeAssert (.iface 261 v) 83 279 true).run Tryz.prog w = .ok (.tuple #[.agg #[.string ⟨#[]⟩, .nilIface], .bool false]) w := by kernel_rfl
theorem to_Define_Seq (v : Value) (w : World) : (Instr.typeAssert (.iface 269 v) 83 279 true).run Tryz.prog w = .ok (.tuple #[.agg #[.string ⟨#[]⟩, .nilIface], .bool false]) w := by kernel_rfl
theorem to_Define_Apply (v : Value) (w : World) : (Instr.typeAssert (.iface 273 v) 83 279 true).run Tryz.prog w = .ok (.tuple #[.agg #[.string ⟨#[]⟩, .nilIface], .bool false]) w := by kernel_rfl
theorem to_Set_If (v : Value) (w : World) : (Instr.typeAssert (.iface 261 v) 83 267 true).run Tryz.prog w = .ok (.tuple #[.agg #[.string ⟨#[]⟩, .nilIface], .bool false]) w := by kernel_rfl
theorem to_Set_Seq (v : Value) (w : World) : (Instr.typeAssert (.iface 269 v) 83 267 true).run Tryz.prog w = .ok (.tuple #[.agg #[.string ⟨#[]⟩, .nilIface], .bool false]) w := by kernel_rfl
theorem to_Set_Apply (v : Value) (w : World) : (Instr.typeAssert (.iface 273 v) 83 267 true).run Tryz.prog w = .ok (.tuple #[.agg #[.string ⟨#[]⟩, .nilIface], .bool false]) w := by kernel_rfl
theorem to_If_Seq (v : Value) (w : World) : (Instr.typeAssert (.iface 269 v) 83 261 true).run Tryz.prog w = .ok (.tuple #[.agg #[.nilIface, .nilIface, .nilIface], .bool false]) w := by kernel_rfl
theorem to_If_Apply (v : Value) (w : World) : (Instr.typeAssert (.iface 273 v) 83 261 true).run Tryz.prog w = .ok (.tuple #[.agg #[.nilIface, .nilIface, .nilIface], .bool false]) w := by kernel_rfl
theorem to_Seq_Apply (v : Value) (w : World) : (Instr.typeAssert (.iface 273 v) 83 269 true).run Tryz.prog w = .ok (.tuple #[.agg #[.slice none 0 0], .bool false]) w := by kernel_rfl

theorem EVs.len {w : World} {P : Nat → Prop} {n : Nat} {es : List Value} (h : EVs w P n es) : es.length ≤ n := by
  induction es generalizing n with
  | nil => simp
  | cons e r ih =>
    cases h with
    | cons a b => have := ih b; have := a.pos; simp; omega

set_option maxRecDepth 100000 in
set_option maxHeartbeats 2000000 in
theorem put_const (t : TypeId) (x : Value) (w : World) (B b nI K : Nat) (bs : List Value) (last : Bool) (h : Bd w B b nI K bs) (hK : K + 7 ≤ 1048576) :
    Calls Tryz.prog 97 #[.pointer (some ⟨b, 0, none⟩), .iface 133 (.agg #[.iface t x]), .bool last] w (PutPost w B b nI K bs 7) := by
  have h1 := is_Const
  have hBw := h.le
  have HW := hide (fun (W : World) (hb : Below w.heap.size w W) => And.intro (Chg.new hBw hb) (constant_go t x (h.below hb) (by omega)))
  have HAL := hide (fun o => (Below.refl w.heap.size w).alloc (Nat.le_refl _) o)
  clear h
  go_enter Tryz.func97, Tryz.ntmps97
  go_wp2_with fail
  refine (HW.out _ (HAL.out _)).2.mono ?_
  rintro e wa ⟨r, rfl, hba, hca⟩
  have HBA := hide hba
  have HCA := hide ((HW.out _ (HAL.out _)).1.trans hca)
  clear hba hca HW
  have HE := hide (emit_go 1 r HBA.out (by omega))
  go_wp2_with fail
  refine HE.out.mono ?_
  rintro e wb ⟨rfl, hbb, hcb⟩
  have HEND := hide (end_go last hbb (by omega))
  have HCB := hide (HCA.out.trans hcb)
  clear hbb HE HBA
  go_wp2_with fail
  refine HEND.out.mono ?_
  rintro e wc ⟨rfl, ⟨nI', hnI', hbc⟩, hcc⟩
  have HF := hide (show PutPost w B b nI K bs (7) (.returned (.tuple #[])) wc from ⟨rfl, ⟨nI', _, [], 0, by omega, by rw [List.append_nil]; exact hbc, .nil, by omega⟩, HCB.out.trans hcc⟩)
  clear hbc hcc HEND
  go_wp2
  refine bodyPost_ret (results_none rfl _ _ _) rfl ?_
  exact HF.out
set_option maxRecDepth 100000 in
set_option maxHeartbeats 2000000 in
theorem put_var (z : ByteArray) (w : World) (B b nI K : Nat) (bs : List Value) (last : Bool) (h : Bd w B b nI K bs) (hK : K + (8 * (z.size + 1) - 1) ≤ 1048576) :
    Calls Tryz.prog 97 #[.pointer (some ⟨b, 0, none⟩), .iface 202 (.agg #[.string z]), .bool last] w (PutPost w B b nI K bs (8 * (z.size + 1) - 1)) := by
  have h1 := is_Var
  have h2 := to_Const_Var
  have hBw := h.le
  have HW := hide (fun (W : World) (hb : Below w.heap.size w W) => And.intro (Chg.new hBw hb) (name_go z (by unfold maxLen; omega) (h.below hb) (by omega)))
  have HAL := hide (fun o => (Below.refl w.heap.size w).alloc (Nat.le_refl _) o)
  clear h
  go_enter Tryz.func97, Tryz.ntmps97
  go_wp2_with fail
  refine (HW.out _ (HAL.out _)).2.mono ?_
  rintro e wa ⟨r, rfl, hba, hca⟩
  have HBA := hide hba
  have HCA := hide ((HW.out _ (HAL.out _)).1.trans hca)
  clear hba hca HW
  have HE := hide (emit_go 2 r HBA.out (by omega))
  go_wp2_with fail
  refine HE.out.mono ?_
  rintro e wb ⟨rfl, hbb, hcb⟩
  have HEND := hide (end_go last hbb (by omega))
  have HCB := hide (HCA.out.trans hcb)
  clear hbb HE HBA
  go_wp2_with fail
  refine HEND.out.mono ?_
  rintro e wc ⟨rfl, ⟨nI', hnI', hbc⟩, hcc⟩
  have HF := hide (show PutPost w B b nI K bs (8 * (z.size + 1) - 1) (.returned (.tuple #[])) wc from ⟨rfl, ⟨nI', _, [], 0, by omega, by rw [List.append_nil]; exact hbc, .nil, by omega⟩, HCB.out.trans hcc⟩)
  clear hbc hcc HEND
  go_wp2
  refine bodyPost_ret (results_none rfl _ _ _) rfl ?_
  exact HF.out
set_option maxRecDepth 100000 in
set_option maxHeartbeats 2000000 in
theorem put_lambda (nm : ByteArray) (u : Value) (zs : List ByteArray) (a : Value) (n : Nat) (w : World) (B b nI K : Nat) (bs : List Value) (last : Bool) (hr : RowN w (fun g => g < B) u zs) (ha : EV w (fun g => g < B) n a) (h : Bd w B b nI K bs) (hK : K + (8 * (n + szs zs + 1) - 1) ≤ 1048576) :
    Calls Tryz.prog 97 #[.pointer (some ⟨b, 0, none⟩), .iface 277 (.agg #[.string nm, u, a]), .bool last] w (PutPost w B b nI K bs (8 * (n + szs zs + 1) - 1)) := by
  have h1 := as_lam
  have h2 := to_Const_Lambda
  have h3 := to_Var_Lambda
  have hBw := h.le
  have hzl := szs_len zs
  obtain ⟨t, x, rfl⟩ := ha.form
  obtain ⟨ad, cap, rfl, _⟩ := ownsRow_slice hr.1
  have HW := hide (fun (W : World) (hb : Below w.heap.size w W) => And.intro (Chg.new hBw hb) (lambda_loop nm _ zs t x (hr.imp (w' := W) (P' := fun g => g < B) fun g o hg ho => ⟨by rw [hb.block g (lt_of_some ho)]; exact ho, hg⟩) (h.below hb) (by omega) (fun z hz => by have := szs_mem zs z hz; unfold maxLen; omega)))
  have HAL := hide (fun o => (Below.refl w.heap.size w).alloc (Nat.le_refl _) o)
  have HA := hide ha
  clear h ha hr
  go_enter Tryz.func97, Tryz.ntmps97
  go_wp2_with fail
  refine (HW.out _ (HAL.out _)).2.mono ?_
  rintro e wa ⟨r, rfl, hba, hca⟩
  have HBA := hide hba
  have HCA := hide ((HW.out _ (HAL.out _)).1.trans hca)
  clear hba hca HW
  have HE := hide (emit_go 3 (r : Int) HBA.out (by omega))
  go_wp2_with fail
  refine HE.out.mono ?_
  rintro e wb ⟨rfl, hbb, hcb⟩
  have HEND := hide (end_go last hbb (by omega))
  have HCB := hide (HCA.out.trans hcb)
  clear hbb HE HBA
  go_wp2_with fail
  refine HEND.out.mono ?_
  rintro e wc ⟨rfl, ⟨nI', hnI', hbc⟩, hcc⟩
  have HF := hide (show PutPost w B b nI K bs (8 * (n + szs zs + 1) - 1) (.returned (.tuple #[])) wc from ⟨rfl, ⟨nI', _, [.iface t x], n + 0, by omega, hbc, by have := EVs.cons (HA.out.chg (HCB.out.trans hcc)) EVs.nil; exact this, by omega⟩, HCB.out.trans hcc⟩)
  clear hbc hcc HEND
  go_wp2
  refine bodyPost_ret (results_none rfl _ _ _) rfl ?_
  exact HF.out
set_option maxRecDepth 100000 in
set_option maxHeartbeats 2000000 in
theorem put_define (N : Nat) (hp : PutC N) (z : ByteArray) (a : Value) (n : Nat) (w : World) (B b nI K : Nat) (bs : List Value) (last : Bool) (hn : n ≤ N) (ha : EV w (fun g => g < B) n a) (h : Bd w B b nI K bs) (hK : K + (8 * (n + z.size + 1) - 1) ≤ 1048576) :
    Calls Tryz.prog 97 #[.pointer (some ⟨b, 0, none⟩), .iface 279 (.agg #[.string z, a]), .bool last] w (PutPost w B b nI K bs (8 * (n + z.size + 1) - 1)) := by
  have h1 := is_Define
  have h2 := to_Const_Define
  have h3 := to_Var_Define
  have h4 := as_lam_Define
  have hBw := h.le
  obtain ⟨t, x, rfl⟩ := ha.form
  have HW := hide (fun (W : World) (hb : Below w.heap.size w W) => And.intro (Chg.new hBw hb) (within_go N hp n 4 W (.iface t x) B b nI K bs hn (ha.chg (Chg.new hBw hb)) (h.below hb) (by omega)))
  have HAL := hide (fun o => (Below.refl w.heap.size w).alloc (Nat.le_refl _) o)
  clear h ha hp
  go_enter Tryz.func97, Tryz.ntmps97
  go_wp2_with fail
  refine (HW.out _ (HAL.out _)).2.mono ?_
  rintro e wn ⟨rfl, ⟨nI1, K1, b1, k1, q1, q2, q3, q4⟩, hcn⟩
  have HCN := hide ((HW.out _ (HAL.out _)).1.trans hcn)
  have hLn := hcn.kp 279 rfl _ _ (Array.getElem?_push_size (xs := w.heap) (x := Obj.cells #[.string z, .iface t x] 279 (0, 0)))
  have l0 := cell_of_block hLn 0
  simp only [List.getElem?_toArray, List.getElem?_cons_zero] at l0
  have HQ := hide q3
  have HN := hide (name_go z (by unfold maxLen; omega) q2 (by omega))
  clear hcn hLn q2 q3 HW
  go_wp2_with fail
  refine HN.out.mono ?_
  rintro e wa ⟨r, rfl, hba, hca⟩
  have HBA := hide hba
  have HCA := hide (HCN.out.trans hca)
  have HQA := hide (HQ.out.chg hca)
  clear hba hca HN HQ l0
  have HE := hide (emit_go 9 r HBA.out (by omega))
  go_wp2_with fail
  refine HE.out.mono ?_
  rintro e wb ⟨rfl, hbb, hcb⟩
  have HEND := hide (end_go last hbb (by omega))
  have HCB := hide (HCA.out.trans hcb)
  have HQB := hide (HQA.out.chg hcb)
  clear hbb HE HBA
  go_wp2_with fail
  refine HEND.out.mono ?_
  rintro e wc ⟨rfl, ⟨nI', hnI', hbc⟩, hcc⟩
  have HF := hide (show PutPost w B b nI K bs (8 * (n + z.size + 1) - 1) (.returned (.tuple #[])) wc from ⟨rfl, ⟨nI', _, b1, k1, by omega, hbc, HQB.out.chg hcc, by omega⟩, HCB.out.trans hcc⟩)
  clear hbc hcc HEND
  go_wp2
  refine bodyPost_ret (results_none rfl _ _ _) rfl ?_
  exact HF.out
set_option maxRecDepth 100000 in
set_option maxHeartbeats 2000000 in
theorem put_set (N : Nat) (hp : PutC N) (z : ByteArray) (a : Value) (n : Nat) (w : World) (B b nI K : Nat) (bs : List Value) (last : Bool) (hn : n ≤ N) (ha : EV w (fun g => g < B) n a) (h : Bd w B b nI K bs) (hK : K + (8 * (n + z.size + 1) - 1) ≤ 1048576) :
    Calls Tryz.prog 97 #[.pointer (some ⟨b, 0, none⟩), .iface 267 (.agg #[.string z, a]), .bool last] w (PutPost w B b nI K bs (8 * (n + z.size + 1) - 1)) := by
  have h1 := is_Set
  have h2 := to_Const_Set
  have h3 := to_Var_Set
  have h4 := as_lam_Set
  have h5 := to_Define_Set
  have hBw := h.le
  obtain ⟨t, x, rfl⟩ := ha.form
  have HW := hide (fun (W : World) (hb : Below w.heap.size w W) => And.intro (Chg.new hBw hb) (within_go N hp n 4 W (.iface t x) B b nI K bs hn (ha.chg (Chg.new hBw hb)) (h.below hb) (by omega)))
  have HAL := hide (fun o => (Below.refl w.heap.size w).alloc (Nat.le_refl _) o)
  clear h ha hp
  go_enter Tryz.func97, Tryz.ntmps97
  go_wp2_with fail
  refine (HW.out _ (HAL.out _)).2.mono ?_
  rintro e wn ⟨rfl, ⟨nI1, K1, b1, k1, q1, q2, q3, q4⟩, hcn⟩
  have HCN := hide ((HW.out _ (HAL.out _)).1.trans hcn)
  have hLn := hcn.kp 267 rfl _ _ (Array.getElem?_push_size (xs := w.heap) (x := Obj.cells #[.string z, .iface t x] 267 (0, 0)))
  have l0 := cell_of_block hLn 0
  simp only [List.getElem?_toArray, List.getElem?_cons_zero] at l0
  have HQ := hide q3
  have HN := hide (name_go z (by unfold maxLen; omega) q2 (by omega))
  clear hcn hLn q2 q3 HW
  go_wp2_with fail
  refine HN.out.mono ?_
  rintro e wa ⟨r, rfl, hba, hca⟩
  have HBA := hide hba
  have HCA := hide (HCN.out.trans hca)
  have HQA := hide (HQ.out.chg hca)
  clear hba hca HN HQ l0
  have HE := hide (emit_go 10 r HBA.out (by omega))
  go_wp2_with fail
  refine HE.out.mono ?_
  rintro e wb ⟨rfl, hbb, hcb⟩
  have HEND := hide (end_go last hbb (by omega))
  have HCB := hide (HCA.out.trans hcb)
  have HQB := hide (HQA.out.chg hcb)
  clear hbb HE HBA
  go_wp2_with fail
  refine HEND.out.mono ?_
  rintro e wc ⟨rfl, ⟨nI', hnI', hbc⟩, hcc⟩
  have HF := hide (show PutPost w B b nI K bs (8 * (n + z.size + 1) - 1) (.returned (.tuple #[])) wc from ⟨rfl, ⟨nI', _, b1, k1, by omega, hbc, HQB.out.chg hcc, by omega⟩, HCB.out.trans hcc⟩)
  clear hbc hcc HEND
  go_wp2
  refine bodyPost_ret (results_none rfl _ _ _) rfl ?_
  exact HF.out
end Go.Proofs.YtlobegpjenabaaaGreatDoor

/- code: put of any expression, form, lambdas, Build. -/
namespace Go.Proofs.YtlobegpjenabaaaGreatDoor
open Go.RowKit Go.Maps
set_option linter.unusedSimpArgs false
set_option linter.unusedVariables false

set_option maxRecDepth 100000 in
set_option maxHeartbeats 2000000 in
theorem put_if (N : Nat) (hp : PutC N) (n1 n2 n3 : Nat) (w : World) (v1 v2 v3 : Value) (B b nI K : Nat) (bs : List Value) (last : Bool) (hn : n1 + n2 + n3 ≤ N) (e1 : EV w (fun g => g < B) n1 v1) (e2 : EV w (fun g => g < B) n2 v2) (e3 : EV w (fun g => g < B) n3 v3) (h : Bd w B b nI K bs) (hK : K + (8 * (n1 + n2 + n3 + 1) - 1) ≤ 1048576) :
    Calls Tryz.prog 97 #[.pointer (some ⟨b, 0, none⟩), .iface 261 (.agg #[v1, v2, v3]), .bool last] w (PutPost w B b nI K bs (8 * (n1 + n2 + n3 + 1) - 1)) := by
  have h1 := is_If
  have h2 := to_Const_If
  have h3 := to_Var_If
  have h4 := as_lam_If
  have h5 := to_Define_If
  have h6 := to_Set_If
  have hBw := h.le
  have HW := hide (fun (W : World) (hb : Below w.heap.size w W) => And.intro (Chg.new hBw hb) (choice_code N hp n1 n2 n3 W v1 v2 v3 B b nI K bs hn (e1.chg (Chg.new hBw hb)) (e2.chg (Chg.new hBw hb)) (e3.chg (Chg.new hBw hb)) (h.below hb) (by omega)))
  have HAL := hide (fun o => (Below.refl w.heap.size w).alloc (Nat.le_refl _) o)
  obtain ⟨t1, x1, rfl⟩ := e1.form
  obtain ⟨t2, x2, rfl⟩ := e2.form
  obtain ⟨t3, x3, rfl⟩ := e3.form
  clear h e1 e2 e3 hp
  go_enter Tryz.func97, Tryz.ntmps97
  go_wp2_with fail
  refine (HW.out _ (HAL.out _)).2.mono ?_
  rintro e wa ⟨rfl, hfa, hca⟩
  have HF := hide (show PutPost w B b nI K bs (8 * (n1 + n2 + n3 + 1) - 1) (.returned (.tuple #[])) wa from ⟨rfl, hfa, (HW.out _ (HAL.out _)).1.trans hca⟩)
  clear hfa hca HW
  go_wp2
  refine bodyPost_ret (results_none rfl _ _ _) rfl ?_
  exact HF.out

set_option maxRecDepth 100000 in
set_option maxHeartbeats 2000000 in
theorem put_Seq (N : Nat) (hp : PutC N) (n : Nat) (w : World) (u : Value) (es : List Value) (B b nI K : Nat) (bs : List Value) (last : Bool) (hn : n ≤ N) (hr : RowE w (fun g => g < B) u es) (he : EVs w (fun g => g < B) n es) (hl : 1 ≤ es.length) (h : Bd w B b nI K bs) (hK : K + (8 * (n + 1) - 1) ≤ 1048576) :
    Calls Tryz.prog 97 #[.pointer (some ⟨b, 0, none⟩), .iface 269 (.agg #[u]), .bool last] w (PutPost w B b nI K bs (8 * (n + 1) - 1)) := by
  have h1 := is_Seq
  have h2 := to_Const_Seq
  have h3 := to_Var_Seq
  have h4 := as_lam_Seq
  have h5 := to_Define_Seq
  have h6 := to_Set_Seq
  have h7 := to_If_Seq
  have h8 := to_Seq_Apply
  have hBw := h.le
  have hel := he.len
  have HW := hide (fun (W : World) (hb : Below w.heap.size w W) => And.intro (Chg.new hBw hb) (show Calls Tryz.prog 157 _ W (PutPost W B b nI K bs (8 * (n + 1) - 1)) from by
    have hr' : RowE W (fun g => g < B) u es := hr.imp fun g o hg ho => ⟨by rw [hb.block g (lt_of_some ho)]; exact ho, hg⟩
    first | exact sequence_code N hp n W u es B b nI K bs last hn hr' (he.chg (Chg.new hBw hb)) (h.below hb) (by omega) (by omega) hl | exact application_code N hp n W u es B b nI K bs hn hr' (he.chg (Chg.new hBw hb)) (h.below hb) (by omega) (by omega)))
  have HAL := hide (fun o => (Below.refl w.heap.size w).alloc (Nat.le_refl _) o)
  obtain ⟨a, cap, rfl, _⟩ := ownsRow_slice hr.1
  clear h hr he hp hel hl
  go_enter Tryz.func97, Tryz.ntmps97
  go_wp2_with fail
  refine (HW.out _ (HAL.out _)).2.mono ?_
  rintro e wa ⟨rfl, hfa, hca⟩
  have HF := hide (show PutPost w B b nI K bs (8 * (n + 1) - 1) (.returned (.tuple #[])) wa from ⟨rfl, hfa, (HW.out _ (HAL.out _)).1.trans hca⟩)
  clear hfa hca HW
  go_wp2
  refine bodyPost_ret (results_none rfl _ _ _) rfl ?_
  exact HF.out
set_option maxRecDepth 100000 in
set_option maxHeartbeats 2000000 in
theorem put_Apply (N : Nat) (hp : PutC N) (n : Nat) (w : World) (u : Value) (es : List Value) (B b nI K : Nat) (bs : List Value) (last : Bool) (hn : n ≤ N) (hr : RowE w (fun g => g < B) u es) (he : EVs w (fun g => g < B) n es) (hl : 1 ≤ es.length) (h : Bd w B b nI K bs) (hK : K + (8 * (n + 1) - 1) ≤ 1048576) :
    Calls Tryz.prog 97 #[.pointer (some ⟨b, 0, none⟩), .iface 273 (.agg #[u]), .bool last] w (PutPost w B b nI K bs (8 * (n + 1) - 1)) := by
  have h1 := is_Apply
  have h2 := to_Const_Apply
  have h3 := to_Var_Apply
  have h4 := as_lam_Apply
  have h5 := to_Define_Apply
  have h6 := to_Set_Apply
  have h7 := to_If_Apply
  have h8 := to_Seq_Apply
  have hBw := h.le
  have hel := he.len
  have HW := hide (fun (W : World) (hb : Below w.heap.size w W) => And.intro (Chg.new hBw hb) (show Calls Tryz.prog 158 _ W (PutPost W B b nI K bs (8 * (n + 1) - 1)) from by
    have hr' : RowE W (fun g => g < B) u es := hr.imp fun g o hg ho => ⟨by rw [hb.block g (lt_of_some ho)]; exact ho, hg⟩
    first | exact sequence_code N hp n W u es B b nI K bs last hn hr' (he.chg (Chg.new hBw hb)) (h.below hb) (by omega) (by omega) hl | exact application_code N hp n W u es B b nI K bs hn hr' (he.chg (Chg.new hBw hb)) (h.below hb) (by omega) (by omega)))
  have HAL := hide (fun o => (Below.refl w.heap.size w).alloc (Nat.le_refl _) o)
  obtain ⟨a, cap, rfl, _⟩ := ownsRow_slice hr.1
  clear h hr he hp hel hl
  go_enter Tryz.func97, Tryz.ntmps97
  go_wp2_with fail
  refine (HW.out _ (HAL.out _)).2.mono ?_
  rintro e wa ⟨rfl, hfa, hca⟩
  have HF := hide (show PutPost w B b nI K bs (8 * (n + 1) - 1) (.returned (.tuple #[])) wa from ⟨rfl, hfa, (HW.out _ (HAL.out _)).1.trans hca⟩)
  clear hfa hca HW
  go_wp2
  refine bodyPost_ret (results_none rfl _ _ _) rfl ?_
  exact HF.out

/-- put, of any expression. -/
theorem put_any : ∀ N, PutC N
  | 0 => fun n w v B b nI K bs last hn hv h hK => absurd hv.pos (by omega)
  | N + 1 => fun n w v B b nI K bs last hn hv h hK => by
    have ih := put_any N
    cases hv with
    | const t x => exact put_const t x w B b nI K bs last h (by omega)
    | var s => exact put_var s w B b nI K bs last h hK
    | ite a b' c => exact put_if N ih _ _ _ w _ _ _ B b nI K bs last (by omega) a b' c h hK
    | define s a => exact put_define N ih s _ _ w B b nI K bs last (by omega) a h hK
    | set s a => exact put_set N ih s _ _ w B b nI K bs last (by omega) a h hK
    | lambda nm r a => exact put_lambda nm _ _ _ _ w B b nI K bs last r a h hK
    | seq r hl a => exact put_Seq N ih _ w _ _ B b nI K bs last (by omega) r a (by omega) h hK
    | apply r hl a => exact put_Apply N ih _ w _ _ B b nI K bs last (by omega) r a (by omega) h hK

set_option maxHeartbeats 2000000 in
theorem form_go (n : Nat) (w : World) (v : Value) (B b nI K : Nat) (bs : List Value) (hv : EV w (fun g => g < B) n v) (h : Bd w B b nI K bs) (hK : K + 8 * n ≤ 1048576) :
    Calls Tryz.prog 58 #[.pointer (some ⟨b, 0, none⟩), v] w (PutPost w B b nI K bs (8 * n)) := by
  have hpos := hv.pos
  have HE := hide (emit_go 0 0 h (by omega))
  have HP := hide (fun (w1 : World) (hc : Chg B w w1) (h1 : Bd w1 B b (nI + 1) (K + 1) bs) => put_any n n w1 v B b (nI + 1) (K + 1) bs true (Nat.le_refl _) (hv.chg hc) h1)
  obtain ⟨t, x, rfl⟩ := hv.form
  have hKK : K + 1 + (8 * n - 1) ≤ 1048576 := by omega
  clear hv h
  go_enter Tryz.func58, Tryz.ntmps58
  go_wp2_with fail
  refine HE.out.mono ?_
  rintro e w1 ⟨rfl, hb1, hc1⟩
  have HB1 := hide hb1
  have HC1 := hide hc1
  clear hb1 hc1 HE
  go_wp2_with fail
  refine (HP.out _ HC1.out HB1.out hKK).mono ?_
  rintro e w2 ⟨rfl, ⟨nI', K', bs', k', q1, q2, q3, q4⟩, hc2⟩
  have HC2 := hide (HC1.out.trans hc2)
  have HQ3 := hide q3
  have hnI : nI < nI' := by omega
  have HPH := hide (pointHere_go nI hnI q2 (by omega))
  clear hc2 HP q2 q3
  go_wp2_with fail
  refine HPH.out.mono ?_
  rintro e w3 ⟨rfl, hb3, hc3⟩
  have HF := hide (show PutPost w B b nI K bs (8 * n) (.returned (.tuple #[])) w3 from ⟨rfl, ⟨nI', K', bs', k', by omega, hb3, HQ3.out.chg hc3, by omega⟩, HC2.out.trans hc3⟩)
  clear hb3 hc3 HPH
  go_wp2
  refine bodyPost_ret (results_none rfl _ _ _) rfl ?_
  exact HF.out
end Go.Proofs.YtlobegpjenabaaaGreatDoor

/- code: lambdas. -/
namespace Go.Proofs.YtlobegpjenabaaaGreatDoor
open Go.RowKit Go.Maps
set_option linter.unusedSimpArgs false
set_option linter.unusedVariables false

theorem BdAt.entry {w : World} {B b m nI nC nN g o cap : Nat} {u0 u1 u2 u5 v : Value} {x0 x1 x2 x3 bs : List Value} (h : BdAt w B b u0 u1 u2 (.slice (some ⟨g, 0, none⟩) bs.length cap) m u5 nI nC nN x0 x1 x2 x3 bs) :
    ∃ x3', BdAt (w.setCell ⟨g, o, none⟩ v) B b u0 u1 u2 (.slice (some ⟨g, 0, none⟩) bs.length cap) m u5 nI nC nN x0 x1 x2 x3' bs := by
  obtain ⟨Dm, mp⟩ := h.mp
  rcases h.r3.2 with ⟨hv, _⟩ | ⟨g', cap', cu, hv, hg, hh, h1, h2, h3, h4⟩
  · cases hv
  · cases hv
    refine ⟨x3.set o v, h.hb, keep_set hh (by decide) _ _ h.hS, ownsRow_keep (keep_set hh (by decide)) h.r0, ownsRow_keep (keep_set hh (by decide)) h.r1, ownsRow_keep (keep_set hh (by decide)) h.r2, ⟨by rw [List.length_set]; exact h.r3.1, Or.inr ⟨g, cap, _, rfl, hg, heap_setCell_same hh, h1, h2, by simpa using h3, ?_⟩⟩, ownsRow_keep (keep_set hh (by decide)) h.r5, h.hm, Dm, ownsMap_block mp (map_set hh mp)⟩
    rw [Array.toList_setIfInBounds, List.take_set, h4]

/-- Where a body lies. -/
theorem Bd.body {w : World} {B b nI K : Nat} {bs : List Value} (h : Bd w B b nI K bs) (i : Nat) (hi : i < bs.length) : ∃ g cap, w.cell? ⟨b, 5, none⟩ = some (.slice (some ⟨g, 0, none⟩) bs.length cap) ∧ bs.length ≤ cap ∧ cap ≤ maxLen ∧ w.cell? ⟨g, i, none⟩ = some bs[i] := by
  obtain ⟨u0, u1, u2, u3, m, u5, nC, nN, x0, x1, x2, x3, h, hk⟩ := h
  obtain ⟨a, cap, rfl, hc1, hc2, hat⟩ := ownsRow_slice h.r5
  obtain ⟨g, rfl, _, hg, hc⟩ := hat (by omega)
  have c5 := cell_of_block h.hS 5
  simp only [List.getElem?_toArray, List.getElem?_cons_zero, List.getElem?_cons_succ] at c5
  exact ⟨g, cap, c5, hc1, hc2, hc i _ (List.getElem?_eq_getElem hi)⟩
/-- How many there are. -/
theorem Bd.bodies {w : World} {B b nI K : Nat} {bs : List Value} (h : Bd w B b nI K bs) : ∃ a cap, w.cell? ⟨b, 5, none⟩ = some (.slice a bs.length cap) ∧ bs.length ≤ K := by
  obtain ⟨u0, u1, u2, u3, m, u5, nC, nN, x0, x1, x2, x3, h, hk⟩ := h
  obtain ⟨a, cap, rfl, hc1, hc2, hat⟩ := ownsRow_slice h.r5
  have c5 := cell_of_block h.hS 5
  simp only [List.getElem?_toArray, List.getElem?_cons_zero, List.getElem?_cons_succ] at c5
  exact ⟨a, cap, c5, by omega⟩

/-- At a round's head of lambdas. -/
def BodRel (w : World) (B b C : Nat) (wr : World) (i : Nat) : Prop :=
  ∃ nI K bs k, i ≤ bs.length ∧ Bd wr B b nI K bs ∧ EVs wr (fun g => g < B) k (bs.drop i) ∧ K + 8 * k ≤ C ∧ Chg B w wr

def BodPost (w : World) (B : Nat) (e : Ending) (w' : World) : Prop := e = .returned (.tuple #[]) ∧ Chg B w w'
theorem dropB_cons {bs : List Value} {i : Nat} (hi : i < bs.length) : bs.drop i = bs[i] :: bs.drop (i + 1) := List.drop_eq_getElem_cons hi

set_option maxRecDepth 100000 in
set_option maxHeartbeats 4000000 in
theorem lambdas_go (w : World) (B b nI K C k : Nat) (bs : List Value) (h : Bd w B b nI K bs) (he : EVs w (fun g => g < B) k bs) (hC : K + 8 * k ≤ C) (hCC : C ≤ 1048576) :
    Calls Tryz.prog 60 #[.pointer (some ⟨b, 0, none⟩)] w (BodPost w B) := by
  have HST := hide (show BodRel w B b C w 0 from ⟨nI, K, bs, k, Nat.zero_le _, h, he, hC, Chg.refl _ _⟩)
  clear h he hC
  go_enter Tryz.func60, Tryz.ntmps60
  go_wp2
  go_loopw [2] (fun i wr => ∃ n : Nat, i = .int .i64 n ∧ BodRel w B b C wr n) (fun i _ => C + 1 - (intOf i).toNat)
  case atStart => exact ⟨0, rfl, HST.out⟩
  case round =>
    obtain ⟨i, rfl, nI, K, bs, k, hib, hbd, hev, hKC, hch⟩ := hrel
    obtain ⟨a, cap, c5, hbK⟩ := hbd.bodies
    have HCH := hide hch
    by_cases hlt : i < bs.length
    · have HHE := hide (here_go (hbd.below (Below.refl wr.heap.size wr).drew) (by omega))
      have HBD := hide hbd
      rw [dropB_cons hlt] at hev
      obtain ⟨u0, u1, u2, u3, m, u5, nC, nN, x0, x1, x2, x3, hat2, hk2⟩ := hbd
      obtain ⟨a3, cap3, rfl, hd1, hd2, _⟩ := ownsRow_slice hat2.r3
      have hw : ∃ g, a3 = some ⟨g, 0, none⟩ ∧ B ≤ g ∧ (wr.cell? ⟨g, i * 3 + 2, none⟩).isSome = true ∧ wr.frozen? ⟨g, i * 3 + 2, none⟩ = false ∧ ∃ cu, wr.heap[g]? = some (Obj.cells cu 213 (0, 0)) := by
        rcases hat2.r3.2 with ⟨hv, h0⟩ | ⟨g', cap', cu, hv, hg, hh, h1, h2, h3, h4⟩
        · omega
        · cases hv
          exact ⟨g', rfl, hg, by rw [cell_of_block hh, Array.getElem?_eq_getElem (by omega)]; rfl, frozen_of_block hh _, _, hh⟩
      obtain ⟨g3, rfl, hBg, hcell, hfz, cu0, hh0⟩ := hw
      obtain ⟨old, hcell⟩ := Option.isSome_iff_exists.1 hcell
      have HHH := hide hh0
      have c3 := cell_of_block hat2.hS 3
      simp only [List.getElem?_toArray, List.getElem?_cons_zero, List.getElem?_cons_succ] at c3
      unfold maxLen at hd2
      have HB := hide (fun (v : Value) => show Bd (wr.setCell ⟨g3, i * 3 + 2, none⟩ v).drew B b nI K bs from by
        refine Bd.below (w := wr.setCell ⟨g3, i * 3 + 2, none⟩ v) ?_ (Below.refl _ _).drew
        obtain ⟨x3', hx⟩ := hat2.entry (o := i * 3 + 2) (v := v)
        exact ⟨_, _, _, _, _, _, _, _, _, _, _, _, hx, hk2⟩)
      have HEV := hide hev
      clear hat2 hk2 hh0 hev hch
      go_wp2
      go_region_with (go_at_call 99; refine (HHE.out).mono ?_; rintro e w' ⟨rfl, rfl⟩)
      all_goals
        have HC1 := hide (show Chg B wr (wr.setCell ⟨g3, i * 3 + 2, none⟩ (.int .i64 nI)).drew from ((Chg.refl B wr).set HHH.out rfl hBg).drew)
        have HB1 := hide (HB.out (.int .i64 nI))
        obtain ⟨W1, hW1⟩ : ∃ W1, W1 = (wr.setCell ⟨g3, i * 3 + 2, none⟩ (.int .i64 nI)).drew := ⟨_, rfl⟩
        rw [← hW1] at HC1 HB1
        rw [← hW1]
        obtain ⟨g5, cap5, e5, he1, he2, e6⟩ := HB1.out.body i hlt
        unfold maxLen at he2
        have HEV1 := hide (HEV.out.chg HC1.out)
        obtain ⟨n1, k1, hk1, hx1, hx2⟩ : ∃ n1 k1, k = n1 + k1 ∧ EV W1 (fun g => g < B) n1 bs[i] ∧ EVs W1 (fun g => g < B) k1 (bs.drop (i + 1)) := by
          cases HEV1.out with
          | @cons n1 k1 _ _ a b => exact ⟨n1, k1, rfl, a, b⟩
        obtain ⟨t5, x5, hx5⟩ := hx1.form
        rw [hx5] at e6
        have HP := hide (put_any n1 n1 W1 bs[i] B b nI K bs true (Nat.le_refl _) hx1 HB1.out (by omega))
        rw [hx5] at HP
        have HX2 := hide hx2
        have HX1P := hide hx1.pos
        clear hW1 HEV1 hx1 hx2 hx5 HB HEV HHE HBD c5 c3 hcell hfz HHH
        go_wp2_with fail
        refine HP.out.mono ?_
        rintro e w2 ⟨rfl, ⟨nI2, K2, b2, k2, r1, r2, r3, r4⟩, hc2⟩
        have HNX := hide (show BodRel w B b C w2 (i + 1) from ⟨nI2, K2, bs ++ b2, k1 + k2, by simp; omega, r2, by rw [List.drop_append_of_le_length (by omega)]; exact (HX2.out.chg hc2).append r3, by have := HX1P.out; omega, (HCH.out.trans HC1.out).trans hc2⟩)
        clear r1 r2 r3 r4 hc2 HP HX2
        go_wp2
        go_roundw
        case rel => exact ⟨i + 1, rfl, HNX.out⟩
        case measure => simp [intOf]; omega
    · clear hbd hev hch
      go_wp2
      refine bodyPost_ret (results_none rfl _ _ _) rfl ?_
      exact ⟨rfl, HCH.out⟩
end Go.Proofs.YtlobegpjenabaaaGreatDoor

/- code: Build. -/
namespace Go.Proofs.YtlobegpjenabaaaGreatDoor
open Go.RowKit Go.Maps
set_option linter.unusedSimpArgs false
set_option linter.unusedVariables false

/-- A builder with nothing in it. -/
theorem bd_new (w : World) : Bd ((w.alloc (.map #[] 0)).alloc (.cells #[.slice none 0 0, .slice none 0 0, .slice none 0 0, .slice none 0 0, .map (some w.heap.size), .slice none 0 0] 147)) w.heap.size (w.heap.size + 1) 0 0 [] := by
  refine ⟨.slice none 0 0, .slice none 0 0, .slice none 0 0, .slice none 0 0, w.heap.size, .slice none 0 0, 0, 0, [], [], [], [], ⟨Nat.le_succ _, ?_, World.ownsRow_nil _ _ _ _, World.ownsRow_nil _ _ _ _, World.ownsRow_nil _ _ _ _, World.ownsRow_nil _ _ _ _, World.ownsRow_nil _ _ _ _, Nat.le_refl _, _, (World.ownsMap_made w _ _ _).alloc _⟩, by simp⟩
  have := Array.getElem?_push_size (xs := (w.alloc (.map #[] 0)).heap) (x := Obj.cells #[.slice none 0 0, .slice none 0 0, .slice none 0 0, .slice none 0 0, .map (some w.heap.size), .slice none 0 0] 147 (0, 0))
  rw [show (w.alloc (.map #[] 0)).heap.size = w.heap.size + 1 from Array.size_push ..] at this
  exact this

def BuiPost (w : World) (e : Ending) (w' : World) : Prop := (∃ a, e = .returned (.pointer (some a))) ∧ Below w.heap.size w w'

set_option maxRecDepth 100000 in
set_option maxHeartbeats 4000000 in
theorem build_go (n : Nat) (w : World) (u : Value) (es : List Value) (hr : RowE w (fun g => g < w.heap.size) u es) (he : EVs w (fun g => g < w.heap.size) n es) (hn : 8 * n + 1 ≤ 1048576) :
    Calls Tryz.prog 41 #[u] w (BuiPost w) := by
  have hel := he.len
  obtain ⟨a, cap, ws, rfl, hc1, hc2, hwl, hws, hat⟩ := rowE_at hr he
  unfold maxLen at hc2
  have HAT := hide hat
  have HWL := hide hwl
  have HWS := hide hws
  have hmm := @run_makeMap Tryz.prog
  obtain ⟨W0, hW0⟩ : ∃ W0, W0 = (w.alloc (.map #[] 0)).alloc (.cells #[.slice none 0 0, .slice none 0 0, .slice none 0 0, .slice none 0 0, .map (some w.heap.size), .slice none 0 0] 147) := ⟨_, rfl⟩
  have hb0 : Below w.heap.size w W0 := by rw [hW0]; exact ((Below.refl _ _).alloc (Nat.le_refl _) _).alloc (by simp) _
  have hbd := bd_new w
  rw [← hW0] at hbd
  have HC0 := hide (Chg.new (Nat.le_refl _) hb0)
  have HBD0 := hide hbd
  clear hat hwl hws hr he hb0 hbd
  go_enter Tryz.func41, Tryz.ntmps41
  go_wp2
  rw [← hW0]
  clear hW0
  go_loopw [11] (fun i wr => ∃ k : Nat, k ≤ es.length ∧ i = .int .i64 k ∧ Fed wr w.heap.size (w.heap.size + 1) 0 0 [] (8 * (ws.take k).sum) ∧ Chg w.heap.size W0 wr) (fun i _ => es.length - (intOf i).toNat)
  case atStart => exact ⟨0, Nat.zero_le _, rfl, Fed.refl HBD0.out _, Chg.refl _ _⟩
  case round =>
    obtain ⟨k, hk, rfl, hf, hch⟩ := hrel
    have HCH := hide hch
    have HCW := hide (HC0.out.trans hch)
    by_cases hlt : k < es.length
    · have hltw : k < ws.length := by rw [HWL.out]; exact hlt
      obtain ⟨g, t, x, rfl, hgB, c0, hev⟩ := HAT.out k hlt hltw
      have d0 : wr.cell? ⟨g, k, none⟩ = some (.iface t x) := by rw [HCW.out.below.cell (p := ⟨g, k, none⟩) hgB]; exact c0
      have hs1 := sum_take ws k hltw
      have hs2 := sum_take_le ws (k + 1)
      obtain ⟨nI1, K1, b1, k1, q1, q2, q3, q4⟩ := hf
      have HWI := hide (form_go ws[k] wr (.iface t x) w.heap.size (w.heap.size + 1) nI1 K1 ([] ++ b1) (hev.chg HCW.out) q2 (by have := HWS.out; omega))
      have HQ := hide q3
      have HQ4 := hide (And.intro q4 hs1)
      clear hch c0 hev q2 q3 hs1 hs2 q4 q1
      go_wp2_with fail
      refine HWI.out.mono ?_
      rintro e w2 ⟨rfl, ⟨nI2, K2, b2, k2, r1, r2, r3, r4⟩, hc2'⟩
      have HFF := hide (show Fed w2 w.heap.size (w.heap.size + 1) 0 0 [] (8 * (ws.take (k + 1)).sum) from ⟨nI2, K2, b1 ++ b2, k1 + k2, Nat.zero_le _, by rw [← List.append_assoc]; exact r2, (HQ.out.chg hc2').append r3, by have := HQ4.out; omega⟩)
      have HC2 := hide (HCH.out.trans hc2')
      clear r1 r2 r3 r4 hc2' HWI HQ HQ4
      go_wp2
      go_roundw
      case rel => exact ⟨k + 1, by omega, rfl, HFF.out, HC2.out⟩
      case measure => simp [intOf]; omega
    · have hke : k = es.length := by omega
      subst hke
      obtain ⟨nI1, K1, b1, k1, q1, q2, q3, q4⟩ := hf
      have hs2 := sum_take_le ws es.length
      have HQ := hide q3
      have hq4 : K1 + 8 * k1 ≤ 8 * n := by have := HWS.out; omega
      have HE := hide (emit_go 14 0 q2 (by omega))
      clear hch q2 q3 hs2 q4 q1
      go_wp2_with fail
      refine HE.out.mono ?_
      rintro e w2 ⟨rfl, hb2, hc2'⟩
      have HLM := hide (lambdas_go w2 w.heap.size (w.heap.size + 1) (nI1 + 1) (K1 + 1) (8 * n + 1) k1 ([] ++ b1) hb2 (HQ.out.chg hc2') (by omega) hn)
      have HC2 := hide (HCW.out.trans hc2')
      clear hb2 hc2' HE HQ
      go_wp2_with fail
      refine HLM.out.mono ?_
      rintro e w3 ⟨rfl, hc3⟩
      have HC3 := hide (HC2.out.trans hc3)
      clear hc3 HLM
      go_wp2
      go_ret
      exact ⟨⟨_, rfl⟩, HC3.out.below⟩
end Go.Proofs.YtlobegpjenabaaaGreatDoor

/- lathe.Compile: of any text it tells what the document asks. -/
namespace Go.Proofs.YtlobegpjenabaaaGreatDoor
open Go.RowKit
set_option linter.unusedSimpArgs false
set_option linter.unusedVariables false

theorem closeS_ne (forms : List D) (opens : List (Bool × List D)) (e : Int) (h : closeS forms opens = .inl e) : e ≠ 0 := by
  unfold closeS at h
  split at h <;> first | (cases h; done) | (cases h; decide) | (split at h <;> first | (cases h; done) | (cases h; decide))
theorem takeS_ne (forms : List D) (opens : List (Bool × List D)) (t : List UInt8) (e : Int) (h : takeS forms opens t = .inl e) : e ≠ 0 := by
  unfold takeS at h
  split at h
  · split at h
    · cases h; decide
    · cases h
  split at h
  · split at h
    · cases h; decide
    · cases h
  split at h
  · exact closeS_ne _ _ _ h
  split at h
  · split at h
    · cases h; decide
    · cases h
  · cases h; decide
theorem feedP_ne : ∀ (l : List Pc) (st : List D × List (Bool × List D)) (e : Int) (p : Nat), feedP l st = .inl (e, p) → e ≠ 0
  | [], st, e, p, h => by cases h
  | x :: r, st, e, p, h => by
    unfold feedP at h
    split at h
    · rename_i er hr
      cases h
      exact takeS_ne _ _ _ _ hr
    · exact feedP_ne r _ e p h
theorem dataS_err (s : ByteArray) (e : Int) (p : Nat) (h : dataS s = .inl (e, p)) : e ≠ 0 := by
  unfold dataS at h
  split at h
  · split at h
    · rename_i er hr
      cases h
      exact feedP_ne _ _ _ _ hr
    · split at h
      · cases h
      · cases h; decide
  · cases h; decide

/-- What a call of Compile comes to. -/
def IComp (l : List UInt8) (w : World) (e : Ending) (w' : World) : Prop :=
  ∃ v : Option Addr, e = .returned (.tuple #[.pointer v, .int .i64 (compS l).1, .int .i64 (compS l).2]) ∧ (v.isSome = ((compS l).1 == 0)) ∧ Below w.heap.size w w'

theorem wtL_take_le : ∀ (ds : List D) (k : Nat), wtL (ds.take k) ≤ wtL ds
  | [], k => by simp
  | d :: r, 0 => by simp [wtL]
  | d :: r, k + 1 => by have := wtL_take_le r k; simp only [List.take_succ_cons, wtL]; omega
theorem wtL_len : ∀ (ds : List D), ds.length ≤ wtL ds
  | [] => Nat.le_refl _
  | d :: r => by have := wtL_len r; have := wtD_pos d; simp only [wtL, List.length_cons]; omega

set_option maxRecDepth 100000 in
set_option maxHeartbeats 2000000 in
theorem compile_any (s : ByteArray) (hmax : s.size ≤ maxLen) (w : World) (hm : MaxOk w) : Calls Tryz.prog 29 #[.string s] w (IComp s.data.toList w) := by
  have HD := hide (data_any s hmax w hm)
  have HDE := hide (dataS_err s)
  obtain ⟨i0, hi, hz0, hz1, hz2⟩ := info_parts infoE
  have HI := hide (And.intro hi (And.intro hz0 (And.intro hz1 hz2)))
  clear hm hi hz0 hz1 hz2
  go_enter Tryz.func29, Tryz.ntmps29
  go_wp2_with fail
  refine HD.out.mono ?_
  rintro e w1 ⟨hb1, h1, h2⟩
  cases hr : dataS s with
  | inl ep =>
    obtain ⟨er, pp⟩ := ep
    have he := h1 er pp hr
    subst he
    have hne := HDE.out er pp hr
    have bne0 : (er != 0) = true := by rw [bne_iff_ne]; exact hne
    have HC : Hid (compS s.data.toList = (er, (pp : Int))) := by
      show _ = _
      unfold compS
      by_cases hs : s.size ≤ 1000
      · rw [dataS_readS s hs] at hr
        rw [if_neg (by simp; omega)]
        have : s.data.toList.length = s.size := by simp
        rw [this, hr]
      · unfold dataS at hr
        rw [dif_neg hs] at hr
        cases hr
        rw [if_pos (by simp; omega)]; rfl
    have HB := hide hb1
    have HNE := hide hne
    clear h1 h2 hr hne hb1 HDE
    go_wp2
    go_ret3
    exact ⟨none, by rw [HC.out]; rfl, by rw [HC.out]; have := HNE.out; simp [this], HB.out⟩
  | inr f =>
    have hs : s.size ≤ 1000 := by
      unfold dataS at hr
      split at hr
      · assumption
      · cases hr
    obtain ⟨v, vs, rfl, hrow, hivs⟩ := h2 f hr
    rw [dataS_readS s hs] at hr
    have hsl : s.data.toList.length = s.size := by simp
    have HC : Hid (compS s.data.toList = match badAt 21 0 f with | some i => (4, (i : Int)) | none => (0, 0)) := by show _ = _; unfold compS; rw [if_neg (by rw [hsl]; omega), hsl, hr]; rfl
    have HWT := hide (show wtL f ≤ 8000 from by have := readS_wt _ _ _ _ _ (Nat.zero_le _) hr; rw [hsl] at this; simp [wtL] at this; omega)
    obtain ⟨a, cap, rfl, hc1, hc2, hat⟩ := rowQ_at (RowI.q hrow) hivs
    have hfl : f.length ≤ 8000 := by have := wtL_len f; have := HWT.out; omega
    have HB := hide hb1
    have HAT := hide hat
    unfold maxLen at hc2
    clear h1 h2 hr hb1 hrow hivs hat hsl HDE hs hmax
    go_wp2
    go_loopw [8, 25] (fun u i wr => ∃ k : Nat, k ≤ f.length ∧ i = .int .i64 k ∧ EachRel w1 21 f u wr k) (fun _ i _ => f.length - (intOf i).toNat)
    case atStart => exact ⟨0, Nat.zero_le _, rfl, ⟨[], 0, Nat.zero_le _, rfl, World.ownsRow_nil _ _ _ _, .nil⟩, Below.refl _ _, fun j _ h => absurd h (by omega)⟩
    case round =>
      obtain ⟨k, hk, rfl, ⟨es, m, hm, hes, hr, he⟩, hb, hok⟩ := hrel
      have hbs := hb.size
      have hel : es.length ≤ 8000 := by omega
      have HES := hide hes
      clear hes
      have H2 := hide hr
      have HE := hide he
      have HBR := hide hb
      have HOK := hide hok
      have HM := hide hm
      by_cases hlt : k < f.length
      · obtain ⟨g, off, rfl, hg, t, x, hiv, c0⟩ := HAT.out k hlt
        have d0 : wr.cell? ⟨g, off + k, none⟩ = some (.iface t x) := by rw [hb.cell (p := ⟨g, off + k, none⟩) hg]; exact c0
        have HIV := hide (IV.keep (Keep.of_below hb) _ _ _ hiv)
        clear hiv hb c0 hr he hok hm
        obtain ⟨a2, cap2, rfl, _, _, _⟩ := ownsRow_slice H2.out
        cases hex : exprF 21 f[k] with
        | false =>
          have HBA : Hid (badAt 21 0 f = some k) := by
            show _ = _
            rw [badAt_step 21 f 0 k (by omega) (fun j hj => HOK.out j (by omega) hj), List.drop_eq_getElem_cons hlt, badAt, if_neg (by simp [hex]), Nat.zero_add]
          have HEX := hide hex.symm
          clear hex
          go_wp2_with fail
          refine (of_any 21 f[k] (.iface t x) _ false HIV.out HEX).mono ?_
          rintro e w2 ⟨⟨u, rfl, _⟩, hb2⟩
          have HBB := hide (HBR.out.trans (hb2.mono HBR.out.size))
          clear hb2
          go_wp2
          go_ret3
          exact ⟨none, by rw [HC.out, HBA.out]; rfl, by rw [HC.out, HBA.out]; rfl, HB.out.trans (HBB.out.mono HB.out.size)⟩
        | true =>
          have HEX := hide hex.symm
          have HEXT := hide hex
          clear hex
          go_wp2_with fail
          refine (of_any 21 f[k] (.iface t x) _ true HIV.out HEX).mono ?_
          rintro e w2 ⟨⟨u, rfl, hu⟩, hb2⟩
          obtain ⟨m2, hm2, hev⟩ := hu rfl
          obtain ⟨t3, x3, rfl⟩ := hev.form
          have HEV := hide hev
          have HM2 := hide hm2
          have HB2 := hide hb2
          have HR2 := hide (ownsRow_of_upd H2.out (Upd.of_below (fun _ => False) hb2) (fun _ _ h => h))
          have hbs2 := hb2.size
          clear hev hm2 hb2 hu
          go_wp2_with (at_builtin; refine wpList_append_lies _ rfl (.tmp 38) (.tmp 40) 79 rfl w1.heap.size 83 i0 .nilIface 1 16 Tryz.underlying79 HI.out.1 HI.out.2.1 HI.out.2.2.1 HI.out.2.2.2 rfl (by decide) _ es.length es rfl (HR2.out.alloc _) ⟨w2.heap.size, 0, none⟩ 1 1 [.iface t3 x3] rfl rfl (cell_one_new _ _ _) (by intro u hu; simp at hu; subst hu; rfl) (by decide) (by unfold maxLen; omega) (by omega) (by simp; omega) (w2.heap.size + 1) (by simp) ?_)
          intro g4 cap4 w4 hown4 hgrow4 hat4 hlt4
          have HU4 := hide (items_upd hgrow4)
          have HO4 := hide hown4
          have HA4 := hide (hat4.imp id (fun h => by omega : _ → w2.heap.size ≤ g4))
          clear hown4 hgrow4 hat4
          go_wp2
          go_roundw
          case rel =>
            exact ⟨k + 1, by omega, rfl, each_round hlt HM.out HES.out H2.out HE.out HBR.out HOK.out HB2.out HM2.out HEV.out HEXT.out HU4.out HO4.out HA4.out⟩
          case measure => simp [intOf]; omega
      · have hke : k = f.length := by omega
        subst hke
        have HBA : Hid (badAt 21 0 f = none) := by
          show _ = _
          rw [badAt_step 21 f 0 f.length (Nat.le_refl _) (fun j hj => HOK.out j hj hj), List.drop_length]; rfl
        have HBD := hide (build_go m wr _ es ⟨ownsRow_base hr (Nat.zero_le _), fun g hg => (ownsRow_ge hr hg).2⟩ (he.imp fun g o hg ho => ⟨ho, lt_of_some ho⟩) (by have := wtL_take_le f f.length; have := HWT.out; omega))
        obtain ⟨a2, cap2, rfl, _, _, _⟩ := ownsRow_slice hr
        clear hr he hb hok hm
        go_wp2_with fail
        refine HBD.out.mono ?_
        rintro e w5 ⟨⟨ad, rfl⟩, hb5⟩
        have HB5 := hide (HBR.out.trans (hb5.mono HBR.out.size))
        clear hb5 HBD
        go_wp2
        go_ret3
        exact ⟨some _, by rw [HC.out, HBA.out]; rfl, by rw [HC.out, HBA.out]; rfl, HB.out.trans ((HB5.out.alloc HB5.out.size _).mono HB.out.size)⟩
end Go.Proofs.YtlobegpjenabaaaGreatDoor

/- lathelaw: compiles, Compiles. -/
namespace Go.Proofs.YtlobegpjenabaaaGreatDoor
open Go.RowKit
set_option linter.unusedSimpArgs false
set_option linter.unusedVariables false

theorem infoCode : (Tryz.prog.info? 69).map (fun i => (i.zero, i.size, i.bytes)) = some (some (.agg #[.pointer none, .slice none 0 0]), 2, 32) := by kernel_rfl

/-- The law's own world: how many codes it holds. -/
def LawW (w : World) (B Wb n : Nat) : Prop :=
  ∃ u r1 r2 r3 r4 xs, B ≤ Wb ∧ w.heap[Wb]? = some (Obj.cells #[u, r1, r2, r3, r4] 28 (0, 0)) ∧ w.ownsRow B 69 2 u n xs
def LawPost (w : World) (B Wb n : Nat) (e : Ending) (w' : World) : Prop :=
  e = .returned (.bool true) ∧ (∃ n', n' ≤ n + 1 ∧ LawW w' B Wb n') ∧ Below B w w'
theorem LawW.below {w w' : World} {B Wb n : Nat} (h : LawW w B Wb n) (hb : Below w.heap.size w w') : LawW w' B Wb n := by
  obtain ⟨u, r1, r2, r3, r4, xs, h1, h2, h3⟩ := h
  exact ⟨u, r1, r2, r3, r4, xs, h1, Keep.of_below hb _ _ h2, ownsRow_keep (Keep.of_below hb) h3⟩

set_option maxRecDepth 100000 in
set_option maxHeartbeats 2000000 in
theorem compiles_go (s : ByteArray) (hmax : s.size ≤ maxLen) (w : World) (hm : MaxOk w) (B Wb n : Nat) (hn : n ≤ 1000) (hw : LawW w B Wb n) :
    Calls Tryz.prog 15 #[.pointer (some ⟨Wb, 0, none⟩), .string s] w (LawPost w B Wb n) := by
  have HC := hide (compile_any s hmax w hm)
  have HRF := hide (fun w1 => refCompile_any s hmax w1)
  have HW := hide hw
  have hBw : B ≤ w.heap.size := by
    obtain ⟨u, r1, r2, r3, r4, xs, h1, h2, h3⟩ := hw
    exact Nat.le_of_lt (Nat.lt_of_le_of_lt h1 (lt_of_some h2))
  obtain ⟨i0, hi, hz0, hz1, hz2⟩ := info_parts infoCode
  have HI := hide (And.intro hi (And.intro hz0 (And.intro hz1 hz2)))
  clear hm hw hi hz0 hz1 hz2 hmax
  unfold IComp CompPost at *
  generalize compS s.data.toList = cs at *
  obtain ⟨er, ea⟩ := cs
  go_enter Tryz.func15, Tryz.ntmps15
  go_wp2_with fail
  refine HC.out.mono ?_
  rintro e w1 ⟨v, rfl, hv, hb1⟩
  have HB1 := hide hb1
  have HV := hide hv
  clear hb1 hv HC
  go_wp2_with fail
  refine (HRF.out _).mono ?_
  rintro e w2 ⟨v2, rfl, hb2, hrow⟩
  have HB2 := hide (HB1.out.trans (hb2.mono HB1.out.size))
  have HROW := hide hrow
  clear hb2 hrow HRF
  by_cases h0 : er = 0
  · subst h0
    obtain ⟨ad, rfl⟩ : ∃ ad, v = some ad := by
      have := HV.out
      cases v with
      | none => cases this
      | some ad => exact ⟨ad, rfl⟩
    obtain ⟨css, f, hr5, _⟩ := HROW.out rfl
    obtain ⟨a5, cap5, rfl, _, _, _⟩ := ownsRow_slice hr5
    obtain ⟨u, r1, r2, r3, r4, xs, hBW, hS, hr⟩ := HW.out.below HB2.out
    have HR := hide hr
    have HS := hide hS
    obtain ⟨a0, cap0, rfl, _, _, _⟩ := ownsRow_slice hr
    have c0 := cell_of_block hS 0
    simp only [List.getElem?_toArray, List.getElem?_cons_zero] at c0
    have hbs := HB2.out.size
    have hBw2 : B ≤ w2.heap.size := by omega
    have hWl := lt_of_some hS
    clear hr hS hr5 HROW HV HW
    go_wp2_with (at_builtin; refine wpList_append_lies _ rfl (.tmp 44) (.tmp 48) 23 rfl B 69 i0 (.agg #[.pointer none, .slice none 0 0]) 2 32 Tryz.underlying23 HI.out.1 HI.out.2.1 HI.out.2.2.1 HI.out.2.2.2 rfl (by decide) _ n xs rfl (HR.out.alloc _) ⟨w2.heap.size, 0, none⟩ 1 1 [.pointer (some ad), .slice a5 css.length cap5] rfl rfl (news2 (heap_alloc_new _ _)) (by intro u hu; simp at hu; rcases hu with rfl | rfl <;> rfl) (by decide) (by unfold maxLen; omega) (by omega) (by simp; omega) (w2.heap.size + 1) (by simp) ?_)
    intro g4 cap4 w4 hown4 hgrow4 hat4 hlt4
    have HU4 := hide (items_upd hgrow4)
    have HO4 := hide hown4
    have hS4 := keep_row HR.out HU4.out (T' := 28) (by decide) _ _ HS.out
    have d0 := cell_of_block hS4 0
    simp only [List.getElem?_toArray, List.getElem?_cons_zero] at d0
    have f0 := frozen_of_block hS4 0
    have HF := hide (show LawPost w B Wb n (.returned (.bool true)) (w4.setCell ⟨Wb, 0, none⟩ (.slice (some ⟨g4, 0, none⟩) (n + 1) cap4)) from ⟨rfl, ⟨n + 1, Nat.le_refl _, _, _, _, _, _, _, hBW, heap_setCell_same hS4, ownsRow_keep (keep_set hS4 (by decide)) HO4.out⟩, ((HB2.out.mono hBw).trans (HU4.out.below hBw2 (by intro k hk; exact (ownsRow_ge HR.out hk).1))).setCell hBW _⟩)
    clear hown4 hgrow4 hat4 hS4
    go_wp2
    go_ret
    exact HF.out
  · have hvn : v = none := by
      have := HV.out
      cases v with
      | none => rfl
      | some ad => simp [h0] at this
    subst hvn
    have b0 : (er != 0) = true := by rw [bne_iff_ne]; exact h0
    have b1 : (er == 0) = false := by rw [beq_eq_false_iff_ne]; exact h0
    clear HV HROW
    go_wp2
    go_ret
    exact ⟨rfl, ⟨n, by omega, HW.out.below HB2.out⟩, HB2.out.mono hBw⟩

def CpsPost (w : World) (e : Ending) (w' : World) : Prop := e = .returned (.bool true) ∧ Below w.heap.size w w'

set_option maxRecDepth 100000 in
set_option maxHeartbeats 2000000 in
theorem Compiles_go (s : ByteArray) (hmax : s.size ≤ maxLen) (w : World) (hm : MaxOk w) : Calls Tryz.prog 3 #[.string s] w (CpsPost w) := by
  have hml := hm.lt
  obtain ⟨W0, hW0⟩ : ∃ W0, W0 = w.alloc (.cells #[.slice none 0 0, .slice none 0 0, .slice none 0 0, .slice none 0 0, .int .i64 0] 28) := ⟨_, rfl⟩
  have hb0 : Below w.heap.size w W0 := by rw [hW0]; exact (Below.refl _ _).alloc (Nat.le_refl _) _
  have hL : LawW W0 w.heap.size w.heap.size 0 := ⟨_, _, _, _, _, [], Nat.le_refl _, by rw [hW0]; exact Array.getElem?_push_size, World.ownsRow_nil _ _ _ _⟩
  have HB0 := hide hb0
  have HC1 := hide (fun (z : ByteArray) (hz : z.size ≤ maxLen) => compiles_go z hz W0 (hm.below hb0 hml) w.heap.size w.heap.size 0 (by omega) hL)
  have HC2 := hide (fun (w1 : World) (n : Nat) (hb : Below w.heap.size W0 w1) (hn : n ≤ 1) (hl : LawW w1 w.heap.size w.heap.size n) => compiles_go s hmax w1 (hm.below (hb0.trans hb) hml) w.heap.size w.heap.size n (by omega) hl)
  clear hm hL hb0 hmax
  go_enter Tryz.func3, Tryz.ntmps3
  go_wp2_with fail
  rw [← hW0]
  clear hW0
  refine (HC1.out _ (by decide)).mono ?_
  rintro e w1 ⟨rfl, ⟨n1, hn1, hl1⟩, hb1⟩
  have H2 := hide (HC2.out w1 n1 hb1 hn1 hl1)
  have HB1 := hide (HB0.out.trans hb1)
  clear hl1 hb1 HC1 HC2
  go_wp2_with fail
  refine H2.out.mono ?_
  rintro e w2 ⟨rfl, _, hb2⟩
  have HB2 := hide (HB1.out.trans hb2)
  clear hb2 H2
  go_wp2
  go_ret
  exact ⟨rfl, HB2.out⟩
end Go.Proofs.YtlobegpjenabaaaGreatDoor
