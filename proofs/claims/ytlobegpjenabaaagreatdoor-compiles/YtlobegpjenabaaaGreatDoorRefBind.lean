/- latheref: bindings. -/
import Derived.Test.YtlobegpjenabaaaGreatDoorRefAll
namespace Go.Proofs.YtlobegpjenabaaaGreatDoor
open Go.RowKit
set_option linter.unusedSimpArgs false
set_option linter.unusedVariables false

def rbOk (f : D → Bool) (b : D) : Bool := isList b && decide ((itemsD b).length = 2) && f ((itemsD b).getD 1 (lst []))
theorem rbindL_all (f : D → Bool) : ∀ (ds : List D) (seen : List (List UInt8)), bindL f seen ds = ds.all (rbOk f)
  | [], seen => rfl
  | b :: r, seen => by rw [bindL, rbindL_all f r seen, List.all_cons]; rfl
def bName (b : D) : D := (itemsD b).getD 0 (num 0)
/-- The bindings of a let. -/
def bindD (n : Nat) (d : D) : Bool := isList d && (itemsD d).all (rbOk (exprF n)) && varsL [] ((itemsD d).map bName)

theorem RV.ups {w : World} {cs : Array Value} {d : D} {n : Nat} (h : RV w n cs d) : ∀ k, RV w (n + k) cs d
  | 0 => h
  | k + 1 => RV.up _ _ _ (RV.ups h k)
theorem RV.pos {w : World} {cs : Array Value} {d : D} {n : Nat} (h : RV w n cs d) : 0 < n := by
  cases n with
  | zero => exact h.elim
  | succ n => omega
theorem RV.len {w : World} {cs : Array Value} {d : D} {n : Nat} (h : RV w n cs d) : (itemsD d).length ≤ 1000 := by
  obtain ⟨m, rfl⟩ : ∃ m, n = m + 1 := ⟨n - 1, by have := h.pos; omega⟩
  cases d with
  | agg l => exact h.1
  | _ => simp [itemsD]

/-- What stands in the walk of bindings at a round's head. -/
def BindRel (w1 : World) (n m : Nat) (ds : List D) (v : Value) (wr : World) (k : Nat) : Prop :=
  (ds.take k).all (rbOk (exprF n)) = true ∧ (∃ css, Row5 w1.heap.size wr v css ∧ RVs wr (m - 1) css ((ds.take k).map bName)) ∧ Below w1.heap.size w1 wr

theorem bind_round {w1 w3 w4 : World} {n m : Nat} {ds : List D} {v v' : Value} {k : Nat} {css : List (Array Value)} {x q : Int} {t : ByteArray} {r : Option Addr} (hk : k < ds.length) (hall : (ds.take k).all (rbOk (exprF n)) = true) (hok : rbOk (exprF n) ds[k] = true)
    (hr : Row5 w1.heap.size w3 v css) (hrv : RVs w3 (m - 1) css ((ds.take k).map bName)) (hb : Below w1.heap.size w1 w3) (hd : RV w3 (m - 1) (rcells x q t r) (bName ds[k])) (hu : Upd (fun k => v.ownBlock = some k) w3 w4)
    (ho : w4.ownsRow w1.heap.size 96 5 v' (css.length + 1) (flat css ++ [.int .i64 x, .int .i64 q, .string t, .pointer r, .pointer none])) : BindRel w1 n m ds v' w4 (k + 1) := by
  have hkk : Keep 162 w3 w4 := Keep.of_upd hu (ownsRow_notPair hr (by decide))
  refine ⟨by rw [all_step _ ds k hk, hall, hok]; rfl, ⟨css ++ [rcells x q t r], ?_, ?_⟩, hb.trans (hu.below hb.size (fun j h => (ownsRow_ge hr h).1))⟩
  · unfold Row5; rw [flat_snoc, List.length_append]; exact ho
  · rw [List.take_succ_eq_append_getElem hk, List.map_append]
    exact RVs.append (RVs.keep hkk _ _ _ hrv) ⟨rfl, RV.keep hkk _ _ _ hd, trivial⟩

set_option maxRecDepth 100000 in
set_option maxHeartbeats 1000000 in
theorem bindings_go (n : Nat) (HE : ExprAt n) (d : D) (cs : Array Value) (w : World) (hv : RV w n cs d) (r : Bool) (HR : Hid (r = bindD n d)) :
    Calls Tryz.prog 70 #[.agg cs] w fun e w' => e = .returned (.bool r) ∧ Below w.heap.size w w' := by
  obtain ⟨m, rfl⟩ : ∃ m, n = m + 1 := ⟨n - 1, by have := hv.pos; omega⟩
  obtain ⟨k0, m0, s0, p0, rfl⟩ := RV.form _ _ _ hv
  have hlen := hv.len
  have HV := hide hv
  have HEX := hide HE
  clear hv HE
  obtain ⟨i0, hinf, hz0, hz1, hz2⟩ := info_parts infoV
  have HI := hide (And.intro hinf (And.intro hz0 (And.intro hz1 hz2)))
  clear hinf hz0 hz1 hz2
  unfold rcells
  go_enter Tryz.func70, Tryz.ntmps70
  go_wp2_with fail
  refine (items_any m d (rcells k0 m0 s0 p0) _ (by exact RV.keep (Keep.of_below ((Below.refl _ _).alloc (Nat.le_refl _) _)) _ _ _ HV.out)).mono ?_
  rintro e w1 ⟨v, css0, rfl, hrow, hrvs, hb1⟩
  have hbw : Below w.heap.size w w1 := ((Below.refl _ _).alloc (Nat.le_refl _) _).trans (hb1.mono (by simp))
  unfold bindD at HR
  generalize itemsD d = ds at *
  obtain ⟨a, cap, rfl, hc1, hc2, hat⟩ := row_at hrow hrvs
  have HB := hide hbw
  have HAT := hide hat
  clear hbw hat hb1 hrow hrvs
  cases hil : isList d with
  | false =>
    go_wp2
    go_ret
    exact ⟨ret_bool (by rw [HR.out, hil]; rfl), HB.out⟩
  | true =>
    unfold maxLen at hc2
    go_wp2_with fail
    go_loopw [5, 6] (fun v i wr => ∃ k : Nat, k ≤ ds.length ∧ i = .int .i64 k ∧ BindRel w1 (m + 1) m ds v wr k) (fun _ i _ => ds.length - (intOf i).toNat)
    case atStart => exact ⟨0, Nat.zero_le _, rfl, rfl, ⟨[], Row5.nil _ _, trivial⟩, Below.refl _ _⟩
    case round =>
      obtain ⟨k, hk, rfl, hall, ⟨css, hrow, hrvs⟩, hbr⟩ := hrel
      have HALL := hide hall
      have HRow := hide hrow
      have HRv := hide hrvs
      clear hall hrow hrvs
      by_cases hlt : k < ds.length
      · obtain ⟨g, rfl, hg, x, mm, s, p, hrv, c0, c1, c2, c3, c4⟩ := HAT.out k hlt
        have d0 : wr.cell? ⟨g, k * 5, none⟩ = some (.int .i64 x) := by rw [hbr.cell (p := ⟨g, k * 5, none⟩) hg]; exact c0
        have d1 : wr.cell? ⟨g, k * 5 + 1, none⟩ = some (.int .i64 mm) := by rw [hbr.cell (p := ⟨g, k * 5 + 1, none⟩) hg]; exact c1
        have d2 : wr.cell? ⟨g, k * 5 + 2, none⟩ = some (.string s) := by rw [hbr.cell (p := ⟨g, k * 5 + 2, none⟩) hg]; exact c2
        have d3 : wr.cell? ⟨g, k * 5 + 3, none⟩ = some (.pointer p) := by rw [hbr.cell (p := ⟨g, k * 5 + 3, none⟩) hg]; exact c3
        have d4 : wr.cell? ⟨g, k * 5 + 4, none⟩ = some (.pointer none) := by rw [hbr.cell (p := ⟨g, k * 5 + 4, none⟩) hg]; exact c4
        obtain ⟨m', rfl⟩ : ∃ j, m = j + 1 := ⟨m - 1, by have := hrv.pos; omega⟩
        have HRV := hide hrv
        have HBR := hide hbr
        clear hrv hbr c0 c1 c2 c3 c4
        go_wp2_with fail
        refine (items_any m' ds[k] (rcells x mm s p) _ (by exact RV.keep (Keep.of_below HBR.out) _ _ _ HRV.out)).mono ?_
        rintro e w2 ⟨v2, css2, rfl, hrow2, hrvs2, hb2⟩
        have hb12 : Below w1.heap.size w1 w2 := HBR.out.trans (hb2.mono HBR.out.size)
        have hrowN : Row5 w1.heap.size w2 u5 css := ownsRow_of_upd HRow.out (Upd.of_below (fun _ => False) hb2) (fun _ _ h => h)
        have hrvN : RVs w2 (m' + 1 - 1) css ((ds.take k).map bName) := RVs.keep (Keep.of_below hb2) _ _ _ HRv.out
        have hlen2 := HRV.out.len
        have HBO := hide (show rbOk (exprF (m' + 1 + 1)) ds[k] = (isList ds[k] && decide ((itemsD ds[k]).length = 2) && exprF (m' + 1 + 1) ((itemsD ds[k]).getD 1 (lst []))) from rfl)
        have HNM := hide (show bName ds[k] = (itemsD ds[k]).getD 0 (num 0) from rfl)
        generalize itemsD ds[k] = es at *
        obtain ⟨a2, cap2, rfl, hc21, hc22, hat2⟩ := row_at hrow2 hrvs2
        have HB12 := hide hb12
        have HRN := hide hrowN
        have HVN := hide hrvN
        have HAT2 := hide hat2
        clear hb2 hb12 d0 d1 d2 d3 d4 hrow2 hrvs2 hrowN hrvN hat2
        cases his : isList ds[k] with
        | false =>
          have HFN := hide (rall_no (rbOk (exprF (m' + 1 + 1))) ds k hlt (by rw [HBO.out, his]; rfl))
          go_wp2
          go_ret
          exact ⟨ret_bool (by rw [HR.out, HFN.out, Bool.and_false]; rfl), HB.out.trans (HB12.out.mono HB.out.size)⟩
        | true =>
          by_cases hl2 : es.length = 2
          · have bl2 : ((es.length : Int) != 2) = false := by simp; omega
            obtain ⟨g2, rfl, hg2, x0, q0, t0, r0, hrvA, a0, a1, a2, a3, a4⟩ := HAT2.out 0 (by omega)
            obtain ⟨g2', hgg, _, x1, q1, t1, r1, hrvB, b0, b1, b2, b3, b4⟩ := HAT2.out 1 (by omega)
            cases hgg
            simp only [Nat.zero_mul, Nat.one_mul, Nat.zero_add] at a0 a1 a2 a3 a4 b0 b1 b2 b3 b4
            have HE1 : Hid (es.getD 1 (lst []) = es[1]) := by show _ = _; simp [List.getD_eq_getElem?_getD, hl2]
            have HE0 : Hid (es.getD 0 (num 0) = es[0]) := by show _ = _; simp [List.getD_eq_getElem?_getD, hl2]
            generalize es[1] = eB at *
            generalize es[0] = eA at *
            have i2 : (1 : Int) < (es.length : Int) := by omega
            have i3 : (0 : Int) < (es.length : Int) := by omega
            have HL2 := hide hl2
            have HRA := hide hrvA
            have HRB := hide hrvB
            clear hl2 hrvA hrvB HAT2
            go_wp2_with fail
            refine (HEX.out eB (rcells x1 q1 t1 r1) _ (by exact RV.ups HRB.out 2)).mono ?_
            rintro e w3 ⟨rfl, hb3⟩
            have hb13 : Below w1.heap.size w1 w3 := HB12.out.trans (hb3.mono HB12.out.size)
            cases hex : exprF (m' + 1 + 1) eB with
            | false =>
              have HFN := hide (rall_no (rbOk (exprF (m' + 1 + 1))) ds k hlt (by rw [HBO.out, HE1.out, hex, Bool.and_false]))
              have HB13 := hide hb13
              clear hb13 hb3
              go_wp2
              go_ret
              exact ⟨ret_bool (by rw [HR.out, HFN.out, Bool.and_false]; rfl), HB.out.trans (HB13.out.mono HB.out.size)⟩
            | true =>
              have HOK : Hid (rbOk (exprF (m' + 1 + 1)) ds[k] = true) := by show _ = _; rw [HBO.out, HE1.out, hex, HL2.out, his]; rfl
              have hrow3 : Row5 w1.heap.size w3 u5 css := ownsRow_of_upd HRN.out (Upd.of_below (fun _ => False) hb3) (fun _ _ h => h)
              have a0' : w3.cell? ⟨g2, 0, none⟩ = some (.int .i64 x0) := by rw [hb3.cell (p := ⟨g2, 0, none⟩) hg2]; exact a0
              have a1' : w3.cell? ⟨g2, 1, none⟩ = some (.int .i64 q0) := by rw [hb3.cell (p := ⟨g2, 1, none⟩) hg2]; exact a1
              have a2' : w3.cell? ⟨g2, 2, none⟩ = some (.string t0) := by rw [hb3.cell (p := ⟨g2, 2, none⟩) hg2]; exact a2
              have a3' : w3.cell? ⟨g2, 3, none⟩ = some (.pointer r0) := by rw [hb3.cell (p := ⟨g2, 3, none⟩) hg2]; exact a3
              have a4' : w3.cell? ⟨g2, 4, none⟩ = some (.pointer none) := by rw [hb3.cell (p := ⟨g2, 4, none⟩) hg2]; exact a4
              have hcl := HRv.out.length
              have hlenc : css.length ≤ 1000 := by rw [hcl]; simp; omega
              have HRow3 := hide hrow3
              have HB13 := hide hb13
              have HB3 := hide hb3
              have hs3 := hb13.size
              clear hb13 hb3 hrow3 hcl a0 a1 a2 a3 a4 b0 b1 b2 b3 b4
              go_wp2_with (at_builtin; refine wpList_append_lies _ rfl (.tmp 44) (.tmp 48) 65 rfl w1.heap.size 96 i0 zero5 5 48 Tryz.underlying65 HI.out.1 HI.out.2.1 HI.out.2.2.1 HI.out.2.2.2 rfl (by decide) _ css.length (flat css) rfl (HRow3.out.alloc _) ⟨w3.heap.size, 0, none⟩ 1 1 [.int .i64 x0, .int .i64 q0, .string t0, .pointer r0, .pointer none] rfl rfl (news5 (heap_alloc_new _ _)) (one5 _ _ _ _) (by decide) (by unfold maxLen; omega) (by omega) (by simp; omega) (w3.heap.size + 1) (by simp) ?_)
              intro g' cap' w4 hown4 hgrow hat4 hlt4
              have H4 := items_upd hgrow
              have HO4 := hide hown4
              have HU4 := hide H4
              clear hown4 hgrow hat4 H4
              go_wp2
              go_roundw
              case rel => exact ⟨k + 1, by omega, by go_num, bind_round hlt HALL.out HOK.out HRow3.out (RVs.keep (Keep.of_below HB3.out) _ _ _ HVN.out) HB13.out (by rw [HNM.out, HE0.out]; exact RV.keep (Keep.of_below HB3.out) _ _ _ HRA.out) HU4.out HO4.out⟩
              case measure => simp [intOf]; omega
          · have HFN := hide (rall_no (rbOk (exprF (m' + 1 + 1))) ds k hlt (by rw [HBO.out, decide_eq_false hl2]; simp))
            have bl2 : ((es.length : Int) != 2) = true := by rw [bne_iff_ne]; omega
            clear hl2
            go_wp2
            go_ret
            exact ⟨ret_bool (by rw [HR.out, HFN.out, Bool.and_false]; rfl), HB.out.trans (HB12.out.mono HB.out.size)⟩
      · have hk : k = ds.length := by omega
        subst hk
        have HBR := hide hbr
        have hlenr := HRv.out.length
        have hl3 : ((ds.take ds.length).map bName).length ≤ 1000 := by simp; omega
        clear hbr hlenr
        go_wp2_with fail
        refine (list_any (m - 1) css ((ds.take ds.length).map bName) _ _ w1.heap.size HRow.out HRv.out hl3).mono ?_
        rintro e w2 ⟨cs2, _, rfl, hrv2, hb2⟩
        have HRV2 := hide hrv2
        have HB2 := hide hb2
        clear hrv2 hb2
        go_wp2_with fail
        refine (variables_any (m - 1) (.agg ((ds.take ds.length).map bName)) cs2 _ HRV2.out).mono ?_
        rintro e w3 ⟨rfl, hb3⟩
        have HB3 := hide hb3
        clear hb3
        go_wp2
        go_ret
        refine ⟨ret_bool ?_, ((HB.out.trans (HBR.out.mono HB.out.size)).trans (HB2.out.mono (Nat.le_trans HB.out.size HBR.out.size))).trans (HB3.out.mono (Nat.le_trans (Nat.le_trans HB.out.size HBR.out.size) HB2.out.size))⟩
        have := HALL.out
        rw [List.take_length] at this
        rw [HR.out, hil, this]; rfl

theorem bindings_any (n : Nat) (HE : ExprAt n) (d : D) (cs : Array Value) (w : World) (hv : RV w n cs d) :
    Calls Tryz.prog 70 #[.agg cs] w fun e w' => e = .returned (.bool (bindD n d)) ∧ Below w.heap.size w w' := bindings_go n HE d cs w hv _ rfl
end Go.Proofs.YtlobegpjenabaaaGreatDoor
