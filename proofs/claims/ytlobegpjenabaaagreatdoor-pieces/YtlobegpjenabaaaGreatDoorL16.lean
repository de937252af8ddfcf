/- code: lambdas, with all that the builder holds. -/
import Derived.Test.YtlobegpjenabaaaGreatDoorL15
namespace Go.Proofs.YtlobegpjenabaaaGreatDoor
open Go.RowKit Go.Maps
set_option linter.unusedSimpArgs false
set_option linter.unusedVariables false

theorem bs_end (st : BS) (last : Bool) : (endS st last).bs = st.bs := by unfold endS; split <;> rfl
mutual
theorem bs_put : ∀ (e : E) (last : Bool) (st : BS), ∃ l, (putS e last st).bs = st.bs ++ l
  | .const d, last, st => ⟨[], by rw [putS, bs_end]; simp [emitS, constS]⟩
  | .nothing, last, st => ⟨[], by rw [putS, bs_end]; simp [emitS, constS]⟩
  | .var s, last, st => ⟨[], by rw [putS, bs_end]; simp [emitS, nameS]⟩
  | .lambda nm xs a, last, st => ⟨[a], by rw [putS, bs_end]; rfl⟩
  | .define s a, last, st => by
    obtain ⟨l, hl⟩ := bs_put a false (emitS st 4 0)
    exact ⟨l, by simp only [putS]; rw [bs_end]; simpa [emitS, nameS, pointS] using hl⟩
  | .set s a, last, st => by
    obtain ⟨l, hl⟩ := bs_put a false (emitS st 4 0)
    exact ⟨l, by simp only [putS]; rw [bs_end]; simpa [emitS, nameS, pointS] using hl⟩
  | .ite a b c, last, st => by
    obtain ⟨l, hl⟩ := bs_put a false (emitS st 4 0)
    obtain ⟨l2, hl2⟩ := bs_put b true (emitS (pointS (putS a false (emitS st 4 0)) st.is.length) 8 0)
    obtain ⟨l3, hl3⟩ := bs_put c true (pointS (putS b true (emitS (pointS (putS a false (emitS st 4 0)) st.is.length) 8 0)) (pointS (putS a false (emitS st 4 0)) st.is.length).is.length)
    refine ⟨l ++ (l2 ++ l3), ?_⟩
    simp only [putS]
    rw [hl3]
    show (putS b true (emitS (pointS (putS a false (emitS st 4 0)) st.is.length) 8 0)).bs ++ l3 = _
    rw [hl2]
    show ((putS a false (emitS st 4 0)).bs ++ l2) ++ l3 = _
    rw [hl]
    show ((st.bs ++ l) ++ l2) ++ l3 = _
    simp
  | .seq es, last, st => by
    obtain ⟨l, hl⟩ := bs_seq es 4 last st
    exact ⟨l, by simp only [putS]; exact hl⟩
  | .apply es, last, st => by
    obtain ⟨l, hl⟩ := bs_app es 4 st
    exact ⟨l, by simp only [putS]; exact hl⟩
theorem bs_seq : ∀ (es : List E) (op : Int) (last : Bool) (st : BS), ∃ l, (seqP es op last st).bs = st.bs ++ l
  | [], op, last, st => ⟨[], by simp [seqP]⟩
  | [e], op, last, st => by
    obtain ⟨l, hl⟩ := bs_put e last (emitS st 7 0)
    exact ⟨l, by simp only [seqP]; exact hl⟩
  | e :: e2 :: r, op, last, st => by
    obtain ⟨l, hl⟩ := bs_put e false (emitS st op 0)
    obtain ⟨l2, hl2⟩ := bs_seq (e2 :: r) 6 last (pointS (putS e false (emitS st op 0)) st.is.length)
    refine ⟨l ++ l2, ?_⟩
    simp only [seqP]
    rw [hl2]
    show (putS e false (emitS st op 0)).bs ++ l2 = _
    rw [hl]
    show (st.bs ++ l) ++ l2 = _
    simp
theorem bs_app : ∀ (es : List E) (op : Int) (st : BS), ∃ l, (appP es op st).bs = st.bs ++ l
  | [], op, st => ⟨[], by simp [appP]⟩
  | e :: r, op, st => by
    obtain ⟨l, hl⟩ := bs_put e false (emitS st op 0)
    obtain ⟨l2, hl2⟩ := bs_app r 5 (pointS (putS e false (emitS st op 0)) st.is.length)
    refine ⟨l ++ l2, ?_⟩
    simp only [appP]
    rw [hl2]
    show (putS e false (emitS st op 0)).bs ++ l2 = _
    rw [hl]
    show (st.bs ++ l) ++ l2 = _
    simp
end

theorem BdAt.entry {w : World} {B b m g i cap : Nat} {st : BS} {u0 u1 u2 u5 : Value} {x1 x3 us : List Value} (hi : i < st.ls.length) (h : BdAt w B b st u0 u1 u2 (.slice (some ⟨g, 0, none⟩) st.ls.length cap) m u5 x1 x3 us) :
    BdAt (w.setCell ⟨g, i * 3 + 2, none⟩ (.int .i64 st.is.length)) B b (entryS st i) u0 u1 u2 (.slice (some ⟨g, 0, none⟩) st.ls.length cap) m u5 x1 (x3.set (i * 3 + 2) (.int .i64 st.is.length)) us := by
  obtain ⟨Dm, mp, hn⟩ := h.mp
  rcases h.r3.2 with ⟨hv, _⟩ | ⟨g', cap', cu, hv, hg, hh, h1, h2, h3, h4⟩
  · cases hv
  · cases hv
    have hbl : Below B w (w.setCell ⟨g, i * 3 + 2, none⟩ (.int .i64 st.is.length)) := (Below.refl B w).setCell (p := ⟨g, i * 3 + 2, none⟩) hg _
    refine ⟨h.hb, keep_set hh (by decide) _ _ h.hS, ownsRow_keep (keep_set hh (by decide)) h.r0, ownsRow_keep (keep_set hh (by decide)) h.r1, h.c1.keep (keep_set hh (by decide)), ownsRow_keep (keep_set hh (by decide)) h.r2, ?_, ?_, ownsRow_keep (keep_set hh (by decide)) h.r5, h.e5.imp (keep_set hh (by decide)) (fun g o hg ho => ⟨by rw [hbl.block g hg]; exact ho, hg⟩), h.hm, Dm, ownsMap_block mp (map_set hh mp), hn⟩
    · rw [entryS, List.length_set]
      refine ⟨by rw [List.length_set]; exact h.r3.1, Or.inr ⟨g, cap, _, rfl, hg, heap_setCell_same hh, h1, h2, by simpa using h3, ?_⟩⟩
      rw [Array.toList_setIfInBounds, List.take_set, h4]
    · exact LVs.entry _ _ i st.is.length hi (h.l3.keep (keep_set hh (by decide)))

/-- Where a body lies. -/
theorem Bd.body {w : World} {B b : Nat} {st : BS} (h : Bd w B b st) (i : Nat) (hi : i < st.bs.length) : ∃ g cap t x, w.cell? ⟨b, 5, none⟩ = some (.slice (some ⟨g, 0, none⟩) st.bs.length cap) ∧ st.bs.length ≤ cap ∧ cap ≤ maxLen ∧ w.cell? ⟨g, i, none⟩ = some (.iface t x) ∧ EV w (fun g => g < B) st.bs[i] (.iface t x) := by
  obtain ⟨hl, u0, u1, u2, u3, m, u5, x1, x3, us, h⟩ := h
  have hul := h.e5.length
  obtain ⟨a, cap, rfl, hc1, hc2, hat⟩ := ownsRow_slice h.r5
  obtain ⟨g, rfl, _, hg, hc⟩ := hat (by omega)
  have c5 := cell_of_block h.hS 5
  simp only [List.getElem?_toArray, List.getElem?_cons_zero, List.getElem?_cons_succ] at c5
  have hev := h.e5.at i (by omega) hi
  obtain ⟨t, x, hx⟩ := hev.form
  rw [hx] at hev
  exact ⟨g, cap, t, x, by rw [hul]; exact c5, by omega, hc2, hc i _ (by rw [List.getElem?_eq_getElem (by omega), hx]), hev⟩
theorem Bd.bodies {w : World} {B b : Nat} {st : BS} (h : Bd w B b st) : ∃ a cap, w.cell? ⟨b, 5, none⟩ = some (.slice a st.bs.length cap) := by
  obtain ⟨hl, u0, u1, u2, u3, m, u5, x1, x3, us, h⟩ := h
  obtain ⟨a, cap, rfl, hc1, hc2, hat⟩ := ownsRow_slice h.r5
  have c5 := cell_of_block h.hS 5
  simp only [List.getElem?_toArray, List.getElem?_cons_zero, List.getElem?_cons_succ] at c5
  exact ⟨a, cap, by rw [h.e5.length]; exact c5⟩

/-- At a round's head of lambdas. -/
def BodRel (w : World) (B b : Nat) (fin : BS) (wr : World) (i : Nat) : Prop :=
  ∃ st, i ≤ st.bs.length ∧ Bd wr B b st ∧ st.size + 8 * wtEs (st.bs.drop i) ≤ 100000 ∧ st.pot ≤ 100000 + i * 100000 ∧ bodiesS (1048576 - i) i st = fin ∧ Chg B w wr
theorem pot_entry (st : BS) (i : Nat) : (entryS st i).pot = st.pot ∧ (entryS st i).size = st.size ∧ (entryS st i).bs = st.bs := by simp [entryS, BS.pot, BS.size]
theorem bod_step {st : BS} {i : Nat} (hi : i < st.bs.length) (h1 : st.size + 8 * wtEs (st.bs.drop i) ≤ 100000) (h2 : st.pot ≤ 100000 + i * 100000) :
    let s2 := putS st.bs[i] true (entryS st i)
    i + 1 ≤ s2.bs.length ∧ s2.size + 8 * wtEs (s2.bs.drop (i + 1)) ≤ 100000 ∧ s2.pot ≤ 100000 + (i + 1) * 100000 ∧ 8 * wtE st.bs[i] ≤ 100000 := by
  intro s2
  have hp := pot_put st.bs[i] true (entryS st i)
  obtain ⟨l, hl⟩ := bs_put st.bs[i] true (entryS st i)
  obtain ⟨e1, e2, e3⟩ := pot_entry st i
  rw [e3] at hl
  rw [List.drop_eq_getElem_cons hi] at h1
  simp only [wtEs] at h1
  rw [e1] at hp
  have hb : s2.bs = st.bs ++ l := hl
  have hq : s2.size + 8 * wtEs s2.bs + 1 ≤ st.size + 8 * wtEs st.bs + 8 * wtE st.bs[i] := hp
  rw [hb, wtEs_append] at hq
  refine ⟨by rw [hb, List.length_append]; omega, ?_, ?_, by omega⟩
  · rw [hb, List.drop_append_of_le_length (by omega), wtEs_append]; omega
  · have : s2.pot + 1 ≤ st.pot + 8 * wtE st.bs[i] := hp
    omega
theorem bodiesS_step {st : BS} {i : Nat} (hi : i < st.bs.length) (hM : i < 1048576) : bodiesS (1048576 - i) i st = bodiesS (1048576 - (i + 1)) (i + 1) (putS st.bs[i] true (entryS st i)) := by
  rw [show 1048576 - i = (1048576 - (i + 1)) + 1 by omega, bodiesS, List.getElem?_eq_getElem hi]
theorem bodiesS_end {st : BS} {i n : Nat} (hi : i = st.bs.length) : bodiesS n i st = st := by
  cases n with
  | zero => rfl
  | succ n => rw [bodiesS, List.getElem?_eq_none (by omega)]
def BodPost (w : World) (B b : Nat) (fin : BS) (e : Ending) (w' : World) : Prop := e = .returned (.tuple #[]) ∧ Bd w' B b fin ∧ Chg B w w'
set_option maxRecDepth 100000 in
set_option maxHeartbeats 4000000 in
theorem lambdas_go (w : World) (B b : Nat) (st : BS) (h : Bd w B b st) (hC : st.pot ≤ 100000) :
    Calls Tryz.prog 60 #[.pointer (some ⟨b, 0, none⟩)] w (BodPost w B b (bodiesS 1048576 0 st)) := by
  obtain ⟨fin, hfin⟩ : ∃ fin, fin = bodiesS 1048576 0 st := ⟨_, rfl⟩
  rw [← hfin]
  have HST := hide (show BodRel w B b fin w 0 from ⟨st, Nat.zero_le _, h, by rw [List.drop_zero]; exact hC, by omega, hfin.symm, Chg.refl _ _⟩)
  clear h hC hfin
  go_enter Tryz.func60, Tryz.ntmps60
  go_wp2
  go_loopw [2] (fun i wr => ∃ n : Nat, i = .int .i64 n ∧ BodRel w B b fin wr n) (fun i _ => 100001 - (intOf i).toNat)
  case atStart => exact ⟨0, rfl, HST.out⟩
  case round =>
    obtain ⟨i, rfl, st, hib, hbd, hsz, hpt, hfn, hch⟩ := hrel
    obtain ⟨a, cap, c5⟩ := hbd.bodies
    have HCH := hide hch
    have hlb := hbd.1
    have hbz : st.bs.length ≤ 100000 := by unfold BS.size at hsz; omega
    by_cases hlt : i < st.bs.length
    · have HHE := hide (here_go (hbd.below (Below.refl wr.heap.size wr).drew) (by omega))
      have HBS := hide (bod_step hlt hsz hpt)
      have HFN := hide (show bodiesS (1048576 - (i + 1)) (i + 1) (putS st.bs[i] true (entryS st i)) = fin from by rw [← hfn, bodiesS_step hlt (by omega)])
      obtain ⟨hl2, u0, u1, u2, u3, m, u5, x1, x3, us, hat2⟩ := hbd
      obtain ⟨a3, cap3, rfl, hd1, hd2, _⟩ := ownsRow_slice hat2.r3
      have hw : ∃ g, a3 = some ⟨g, 0, none⟩ ∧ B ≤ g ∧ (wr.cell? ⟨g, i * 3 + 2, none⟩).isSome = true ∧ wr.frozen? ⟨g, i * 3 + 2, none⟩ = false ∧ ∃ cu, wr.heap[g]? = some (Obj.cells cu 213 (0, 0)) := by
        rcases hat2.r3.2 with ⟨hv, h0⟩ | ⟨g', cap', cu, hv, hg, hh, h1, h2, h3, h4⟩
        · omega
        · cases hv
          exact ⟨g', rfl, hg, by rw [cell_of_block hh, Array.getElem?_eq_getElem (by omega)]; rfl, frozen_of_block hh _, _, hh⟩
      obtain ⟨g3, rfl, hBg, hcell, hfz, cu0, hh0⟩ := hw
      obtain ⟨old, hcell⟩ := Option.isSome_iff_exists.1 hcell
      have HHH := hide hh0
      have c3 := cell_of_block hat2.hS 3
      simp only [List.getElem?_toArray, List.getElem?_cons_zero, List.getElem?_cons_succ] at c3
      unfold maxLen at hd2
      have HB := hide (show Bd (wr.setCell ⟨g3, i * 3 + 2, none⟩ (.int .i64 st.is.length)).drew B b (entryS st i) from
        Bd.below (w := wr.setCell ⟨g3, i * 3 + 2, none⟩ (.int .i64 st.is.length)) ⟨by simp [entryS, hl2], _, _, _, _, _, _, _, _, _, hat2.entry (by omega)⟩ (Below.refl _ _).drew)
      have HPE := hide (pot_entry st i)
      have HPT := hide hpt
      have HLT := hide hlt
      have hilt : i ≤ 100000 := by omega
      rw [hlb] at hd1 c3
      clear hat2 hh0 hch hsz hpt hfn hl2 hib hlb
      go_wp2
      go_region_with (go_at_call 99; refine (HHE.out).mono ?_; rintro e w' ⟨rfl, rfl⟩)
      all_goals
        have HC1 := hide (show Chg B wr (wr.setCell ⟨g3, i * 3 + 2, none⟩ (.int .i64 st.is.length)).drew from ((Chg.refl B wr).set HHH.out rfl hBg).drew)
        obtain ⟨W1, hW1⟩ : ∃ W1, W1 = (wr.setCell ⟨g3, i * 3 + 2, none⟩ (.int .i64 st.is.length)).drew := ⟨_, rfl⟩
        rw [← hW1] at HC1 HB
        rw [← hW1]
        obtain ⟨g5, cap5, t5, x5, e5, he1, he2, e6, hev⟩ := HB.out.body i (by rw [HPE.out.2.2]; exact HLT.out)
        rw [HPE.out.2.2] at e5 he1
        have hbe : (entryS st i).bs[i]'(by rw [HPE.out.2.2]; exact HLT.out) = st.bs[i]'HLT.out := by simp [entryS]
        rw [hbe] at hev
        unfold maxLen at he2
        have HP := hide (put_any (wtE (st.bs[i]'HLT.out)) (st.bs[i]'HLT.out) W1 (.iface t5 x5) B b (entryS st i) true (Nat.le_refl _) hev HB.out (by have h1 := HBS.out.2.2.2; have h2 := HPT.out; rw [HPE.out.1]; omega))
        clear hW1 hev hbe HB HHE c5 c3 hcell hfz HHH
        go_wp2_with fail
        refine HP.out.mono ?_
        rintro e w2 ⟨rfl, hb2, hc2⟩
        have HNX := hide (show BodRel w B b fin w2 (i + 1) from ⟨_, HBS.out.1, hb2, HBS.out.2.1, HBS.out.2.2.1, HFN.out, (HCH.out.trans HC1.out).trans hc2⟩)
        clear hb2 hc2 HP
        go_wp2
        go_roundw
        case rel => exact ⟨i + 1, rfl, HNX.out⟩
        case measure => simp [intOf]; omega
    · have hie : i = st.bs.length := by omega
      have HF := hide (show Bd wr B b fin from by rw [← hfn, bodiesS_end hie]; exact hbd)
      clear hbd hch hsz hpt hfn hie
      go_wp2
      refine bodyPost_ret (results_none rfl _ _ _) rfl ?_
      exact ⟨rfl, HF.out, HCH.out⟩
end Go.Proofs.YtlobegpjenabaaaGreatDoor

/- code: Build, with all that the program holds. -/
namespace Go.Proofs.YtlobegpjenabaaaGreatDoor
open Go.RowKit Go.Maps
set_option linter.unusedSimpArgs false
set_option linter.unusedVariables false

/-- A builder with nothing in it. -/
theorem bd_new (w : World) : Bd ((w.alloc (.map #[] 0)).alloc (.cells #[.slice none 0 0, .slice none 0 0, .slice none 0 0, .slice none 0 0, .map (some w.heap.size), .slice none 0 0] 147)) w.heap.size (w.heap.size + 1) BS.new := by
  refine ⟨rfl, .slice none 0 0, .slice none 0 0, .slice none 0 0, .slice none 0 0, w.heap.size, .slice none 0 0, [], [], [], Nat.le_succ _, ?_, World.ownsRow_nil _ _ _ _, World.ownsRow_nil _ _ _ _, trivial, World.ownsRow_nil _ _ _ _, World.ownsRow_nil _ _ _ _, trivial, World.ownsRow_nil _ _ _ _, .nil, Nat.le_refl _, _, (World.ownsMap_made w _ _ _).alloc _, ⟨[], rfl⟩, fun s => ⟨rfl, fun h => by cases h⟩⟩
  have := Array.getElem?_push_size (xs := (w.alloc (.map #[] 0)).heap) (x := Obj.cells #[.slice none 0 0, .slice none 0 0, .slice none 0 0, .slice none 0 0, .map (some w.heap.size), .slice none 0 0] 147 (0, 0))
  rw [show (w.alloc (.map #[] 0)).heap.size = w.heap.size + 1 from Array.size_push ..] at this
  exact this
theorem formsS_snoc : ∀ (l : List E) (e : E) (st : BS), formsS (l ++ [e]) st = formS e (formsS l st)
  | [], e, st => rfl
  | a :: r, e, st => by rw [List.cons_append, formsS, formsS_snoc r e, formsS]
theorem pot_forms : ∀ (l : List E) (st : BS), (formsS l st).pot ≤ st.pot + 8 * wtEs l
  | [], st => by simp only [formsS]; omega
  | a :: r, st => by
    have h1 := pot_form a st
    have h2 := pot_forms r (formS a st)
    simp only [formsS, wtEs]; omega
def BuiPost (w : World) (ks : List E) (e : Ending) (w' : World) : Prop := e = .returned (.pointer (some ⟨w.heap.size + 1, 0, none⟩)) ∧ Bd w' w.heap.size (w.heap.size + 1) (codeS ks) ∧ Chg w.heap.size w w'

set_option maxRecDepth 100000 in
set_option maxHeartbeats 4000000 in
theorem build_go (ks : List E) (w : World) (u : Value) (es : List Value) (hr : RowE w (fun g => g < w.heap.size) u es) (he : EVs w (fun g => g < w.heap.size) ks es) (hn : 8 * wtEs ks + 1 ≤ 100000) :
    Calls Tryz.prog 41 #[u] w (BuiPost w ks) := by
  have hel := wtEs_len ks
  obtain ⟨a, cap, rfl, hc1, hc2, hat⟩ := rowE_at hr he
  unfold maxLen at hc2
  have HAT := hide hat
  have hmm := @run_makeMap Tryz.prog
  obtain ⟨W0, hW0⟩ : ∃ W0, W0 = (w.alloc (.map #[] 0)).alloc (.cells #[.slice none 0 0, .slice none 0 0, .slice none 0 0, .slice none 0 0, .map (some w.heap.size), .slice none 0 0] 147) := ⟨_, rfl⟩
  have hb0 : Below w.heap.size w W0 := by rw [hW0]; exact ((Below.refl _ _).alloc (Nat.le_refl _) _).alloc (by simp) _
  have hbd := bd_new w
  rw [← hW0] at hbd
  have HC0 := hide (Chg.new (Nat.le_refl _) hb0)
  have HBD0 := hide hbd
  have HNK := hide hn
  have hkl : ks.length ≤ 100000 := by omega
  clear hat hr he hb0 hbd hel hn
  go_enter Tryz.func41, Tryz.ntmps41
  go_wp2
  rw [← hW0]
  clear hW0
  go_loopw [11] (fun i wr => ∃ k : Nat, k ≤ ks.length ∧ i = .int .i64 k ∧ Bd wr w.heap.size (w.heap.size + 1) (formsS (ks.take k) BS.new) ∧ Chg w.heap.size W0 wr) (fun i _ => ks.length - (intOf i).toNat)
  case atStart => exact ⟨0, Nat.zero_le _, rfl, HBD0.out, Chg.refl _ _⟩
  case round =>
    obtain ⟨k, hk, rfl, hf, hch⟩ := hrel
    have HCH := hide hch
    have HCW := hide (HC0.out.trans hch)
    have hpt := pot_forms (ks.take k) BS.new
    have hpn : BS.new.pot = 0 := rfl
    rw [hpn] at hpt
    by_cases hlt : k < ks.length
    · obtain ⟨g, t, x, rfl, hgB, c0, hev⟩ := HAT.out k hlt
      have d0 : wr.cell? ⟨g, k, none⟩ = some (.iface t x) := by rw [HCW.out.below.cell (p := ⟨g, k, none⟩) hgB]; exact c0
      have hs1 := wtEs_take ks k hlt
      have HWI := hide (form_go ks[k] wr (.iface t x) w.heap.size (w.heap.size + 1) _ (hev.chg HCW.out) hf (by have := HNK.out; omega))
      have HNX := hide (show formS ks[k] (formsS (ks.take k) BS.new) = formsS (ks.take (k + 1)) BS.new from by rw [List.take_succ_eq_append_getElem hlt, formsS_snoc])
      rw [HNX.out] at HWI
      clear hch c0 hev hf hs1 hpt hpn HNX
      go_wp2_with fail
      refine HWI.out.mono ?_
      rintro e w2 ⟨rfl, hb2, hc2'⟩
      have HB2 := hide hb2
      have HC2 := hide (HCH.out.trans hc2')
      clear hb2 hc2' HWI
      go_wp2
      go_roundw
      case rel => exact ⟨k + 1, by omega, rfl, HB2.out, HC2.out⟩
      case measure => simp [intOf]; omega
    · have hke : k = ks.length := by omega
      subst hke
      rw [List.take_length] at hf hpt
      have hsz := size_pot (formsS ks BS.new)
      have HE := hide (emit_go 14 0 hf (by have := HNK.out; omega))
      have HPT := hide (show (emitS (formsS ks BS.new) 14 0).pot ≤ 100000 from by rw [pot_emit]; have := HNK.out; omega)
      clear hch hf hpt hpn hsz
      go_wp2_with fail
      refine HE.out.mono ?_
      rintro e w2 ⟨rfl, hb2, hc2'⟩
      have HLM := hide (lambdas_go w2 w.heap.size (w.heap.size + 1) _ hb2 HPT.out)
      have HC2 := hide (HCW.out.trans hc2')
      clear hb2 hc2' HE
      go_wp2_with fail
      refine HLM.out.mono ?_
      rintro e w3 ⟨rfl, hb3, hc3⟩
      have HF := hide (show Bd w3 w.heap.size (w.heap.size + 1) (codeS ks) from hb3)
      have HC3 := hide (HC2.out.trans hc3)
      clear hc3 hb3 HLM
      go_wp2
      go_ret
      exact ⟨rfl, HF.out, HC3.out⟩
end Go.Proofs.YtlobegpjenabaaaGreatDoor

/- What an expression weighs is no more than its datum. -/
namespace Go.Proofs.YtlobegpjenabaaaGreatDoor
set_option linter.unusedSimpArgs false
set_option linter.unusedVariables false

mutual
/-- How much a datum weighs. -/
def wtD : D → Nat
  | .agg l => wtL l + 1
  | .lit (.string s) => s.length + 1
  | _ => 1
def wtL : List D → Nat
  | [] => 0
  | d :: r => wtD d + wtL r
end
theorem wtL_append : ∀ (a b : List D), wtL (a ++ b) = wtL a + wtL b
  | [], b => by simp [wtL]
  | d :: r, b => by simp only [List.cons_append, wtL, wtL_append r b]; omega
theorem wtD_pos (d : D) : 1 ≤ wtD d := by unfold wtD; split <;> omega
theorem nameD_wt (d : D) : (nameD d).length + 1 ≤ wtD d := by
  unfold nameD
  split
  · simp [wtD]
  · exact wtD_pos d
/-- A datum weighs no more than eight times its bytes. -/
theorem rd_wt (l : List UInt8) : ∀ (n op i : Nat) (m : Option (List D)) (d : D) (k : Nat), i ≤ l.length → (m = none → i < l.length) → rd n l op i m = .inr (d, k) → wtD d ≤ 8 * (k - i) + (match m with | none => 0 | some acc => wtL acc)
  | 0, op, i, m, d, k, _, _, h => by simp [rd] at h
  | n + 1, op, i, none, d, k, hi, hm, h => by
    have hi := hm rfl
    have hadv := rd_adv l (n + 1) op i none d k (by omega) (fun _ => hi) h
    simp only [rd] at h
    split at h
    · cases h
    split at h
    · split at h
      · cases h
      · have := rd_wt l n (op + 1) (i + 1) (some []) d k (by omega) (by simp) h
        simp [wtL] at this ⊢; omega
    split at h
    · split at h
      · cases h
      · split at h
        · cases h
        · rename_i hs
          have h1 := skipTo_le' l (i + 1) (by omega)
          have h2 : i + 1 ≤ skipTo l (i + 1) := by unfold skipTo; omega
          split at h
          · cases h
          · rename_i d' k' hr
            cases h
            have := rd_wt l n (op + 1) (skipTo l (i + 1)) none d' k (by omega) (fun _ => by omega) hr
            have hx := rd_adv l n (op + 1) (skipTo l (i + 1)) none d' k (by omega) (fun _ => by omega) hr
            simp [lst, sym, qsym, wtD, wtL] at this ⊢; omega
    split at h
    · cases h
    · split at h
      · cases h
      · rename_i d' hd
        cases h
        have : wtD d ≤ (tokEnd l i - i) + 1 := by
          unfold tokD at hd
          split at hd
          · cases hd; exact Nat.le_add_left _ _
          split at hd
          · cases hd; exact Nat.le_add_left _ _
          split at hd
          · split at hd
            · cases hd
            · cases hd; exact Nat.le_add_left _ _
          split at hd
          · cases hd
          · cases hd
            simp only [sym, wtD, List.length_take]; omega
        simp; omega
  | n + 1, op, i, some acc, d, k, hi, hm, h => by
    have hadv := rd_adv l (n + 1) op i (some acc) d k (by omega) (by simp) h
    simp only [rd] at h
    have h1 := skipTo_le' l i hi
    have h2 : i ≤ skipTo l i := by unfold skipTo; omega
    split at h
    · cases h
    split at h
    · cases h; simp [lst, wtD]; omega
    split at h
    · cases h
    · rename_i d' k' hr
      have a1 := rd_adv l n op (skipTo l i) none d' k' (by omega) (fun _ => by omega) hr
      have a2 := rd_wt l n op (skipTo l i) none d' k' (by omega) (fun _ => by omega) hr
      have a3 := rd_adv l n op k' (some (acc ++ [d'])) d k (by omega) (by simp) h
      have a4 := rd_wt l n op k' (some (acc ++ [d'])) d k (by omega) (by simp) h
      simp [wtL_append, wtL] at a2 a4 ⊢; omega
theorem readS_wt (l : List UInt8) : ∀ (n i : Nat) (acc ds : List D), i ≤ l.length → readS n l i acc = .inr ds → wtL ds ≤ 8 * (l.length - i) + wtL acc
  | 0, i, acc, ds, hi, h => by simp only [readS] at h; cases h; omega
  | n + 1, i, acc, ds, hi, h => by
    simp only [readS] at h
    have h1 := skipTo_le' l i hi
    have h2 : i ≤ skipTo l i := by unfold skipTo; omega
    split at h
    · cases h; omega
    split at h
    · cases h
    · rename_i d k hr
      have a1 := rd_adv l _ 0 (skipTo l i) none d k (by omega) (fun _ => by omega) hr
      have a2 := rd_wt l _ 0 (skipTo l i) none d k (by omega) (fun _ => by omega) hr
      have a3 := readS_wt l n k (acc ++ [d]) ds (by omega) h
      simp [wtL_append, wtL] at a2 a3; omega

theorem itemsD_wt {d : D} (h : isList d = true) : wtL (itemsD d) + 1 = wtD d := by
  cases d <;> first | rfl | cases h
theorem two_wt {b : D} (h : bOk b = true) : wtD (bFst b) + wtD (bSnd b) + 1 ≤ wtD b := by
  unfold bOk at h
  rw [Bool.and_eq_true] at h
  have h1 := itemsD_wt h.1
  obtain ⟨x, y, hxy⟩ := two_of (of_decide_eq_true h.2)
  rw [hxy] at h1
  unfold bFst bSnd
  rw [hxy]
  simp [wtL] at h1 ⊢
  omega
theorem split_wt : ∀ (l : List D), l.all bOk = true → wtL (l.map bFst) + wtL (l.map bSnd) ≤ wtL l
  | [], _ => Nat.le_refl _
  | b :: r, h => by
    rw [List.all_cons, Bool.and_eq_true] at h
    have h1 := two_wt h.1
    have h2 := split_wt r h.2
    simp only [List.map_cons, wtL]
    omega

theorem each_wt {f : D → Option E} (hf : ∀ d e, f d = some e → wtE e ≤ wtD d) : ∀ (ds : List D) (ks : List E), eachS f ds = some ks → wtEs ks ≤ wtL ds
  | [], ks, h => by cases h; exact Nat.le_refl _
  | d :: r, ks, h => by
    simp only [eachS] at h
    split at h
    · rename_i e he
      split at h
      · rename_i es hes
        cases h
        have h1 := hf d e he
        have h2 := each_wt hf r es hes
        simp only [wtEs, wtL]; omega
      · cases h
    · cases h
theorem seqS_wt : ∀ (ks : List E) (e : E), seqS ks = some e → wtE e ≤ wtEs ks + 1
  | [], e, h => by cases h
  | [k], e, h => by cases h; simp only [wtEs]; omega
  | a :: b :: r, e, h => by cases h; simp only [wtE]; omega
theorem body_wt {f : D → Option E} (hf : ∀ d e, f d = some e → wtE e ≤ wtD d) (ds : List D) (e : E) (h : bodyS f ds = some e) : wtE e ≤ wtL ds + 1 := by
  unfold bodyS at h
  cases hk : eachS f ds with
  | none => rw [hk] at h; cases h
  | some ks =>
    rw [hk] at h
    have h1 := each_wt hf ds ks hk
    have h2 := seqS_wt ks e h
    omega
theorem names_le : ∀ (nd : List D), ((nd.map nameD).map (fun s => s.length + 1)).sum ≤ wtL nd
  | [] => Nat.le_refl _
  | d :: r => by have := names_le r; have := nameD_wt d; simp only [List.map_cons, List.sum_cons, wtL]; omega
theorem proc_wt {f : D → Option E} (hf : ∀ d e, f d = some e → wtE e ≤ wtD d) (nd ds : List D) (e : E) (h : procS f nd ds = some e) : wtE e ≤ wtL ds + wtL nd + 2 := by
  unfold procS at h
  split at h
  · cases hb : bodyS f ds with
    | none => rw [hb] at h; cases h
    | some k =>
      rw [hb] at h
      cases h
      have h1 := body_wt hf ds k hb
      have h2 := names_le nd
      simp only [wtE]; omega
  · cases h
theorem asS_wt (s : List UInt8) (e : E) : wtE (asS s e) = wtE e + s.length + 1 := by cases e <;> rfl
theorem nv_wt {f : D → Option E} {mk : List UInt8 → E → E} (hmk : ∀ s e, wtE (mk s e) = wtE e + s.length + 1) (hf : ∀ d e, f d = some e → wtE e ≤ wtD d) : ∀ (ds : List D) (e : E), nvS f mk ds = some e → wtE e ≤ wtL ds
  | [x, a], e, h => by
    simp only [nvS] at h
    split at h
    · cases hk : f a with
      | none => rw [hk] at h; cases h
      | some k =>
        rw [hk] at h
        cases h
        have h1 := hf a k hk
        have h2 := nameD_wt x
        rw [hmk]; simp only [wtL]; omega
    · cases h
  | [], e, h => by cases h
  | [_], e, h => by cases h
  | _ :: _ :: _ :: _, e, h => by cases h
theorem wt_exprS : ∀ (n : Nat) (d : D) (e : E), exprS n d = some e → wtE e ≤ wtD d
  | 0, d, e, h => by cases h
  | n + 1, .agg l, e, h => by
    have ih := wt_exprS n
    have key : ∀ {K : List UInt8}, headK l = K → K ≠ [] → wtL l.tail + 2 ≤ wtD (.agg l) := by
      intro K hK hne
      match l, hK with
      | [], hK => exact absurd hK.symm hne
      | a :: r, _ => have := wtD_pos a; simp only [List.tail_cons, wtD, wtL]; omega
    simp only [exprS] at h
    split at h
    · rename_i hh
      have hw := key hh (by decide)
      match hq : l.tail, h with
      | [q], h => cases h; simp only [wtE]; omega
      | [], h => cases h
      | _ :: _ :: _, h => cases h
    split at h
    · rename_i hh
      have hw := key hh (by decide)
      cases hk : eachS (exprS n) l.tail with
      | none => rw [hk] at h; cases h
      | some ks =>
        rw [hk] at h
        have h1 := each_wt ih l.tail ks hk
        match ks, h with
        | [a, b], h => cases h; simp only [wtE, wtEs] at *; omega
        | [a, b, c], h => cases h; simp only [wtE, wtEs] at *; omega
        | [], h => cases h
        | [_], h => cases h
        | _ :: _ :: _ :: _ :: _, h => cases h
    split at h
    · rename_i hh
      have hw := key hh (by decide)
      have := nv_wt (fun _ _ => rfl) ih l.tail e h
      omega
    split at h
    · rename_i hh
      have hw := key hh (by decide)
      match hl : l.tail, h with
      | q :: ds, h =>
        rw [hl] at hw
        simp only [lamS] at h
        split at h
        · rename_i hi
          have h1 := proc_wt ih _ _ e h
          have h2 := itemsD_wt hi
          simp only [wtL] at hw; omega
        · cases h
      | [], h => cases h
    split at h
    · rename_i hh
      have hw := key hh (by decide)
      have := body_wt ih l.tail e h
      omega
    split at h
    · rename_i hh
      have hw := key hh (by decide)
      match hl : l.tail, h with
      | q :: ds, h =>
        rw [hl] at hw
        simp only [defS] at h
        split at h
        · rename_i hi
          have h2 := itemsD_wt hi
          match hd : itemsD q, h with
          | x :: xs, h =>
            simp only [dfpS] at h
            split at h
            · cases hp : procS (exprS n) xs ds with
              | none => rw [hp] at h; cases h
              | some k =>
                rw [hp] at h
                cases h
                have h1 := proc_wt ih _ _ k hp
                have h3 := nameD_wt x
                rw [hd] at h2
                rw [asS_wt]
                simp only [wtL] at hw h2; omega
            · cases h
          | [], h => cases h
        · have := nv_wt asS_wt ih (q :: ds) e h
          omega
      | [], h => cases h
    split at h
    · rename_i hh
      have hw := key hh (by decide)
      match hl : l.tail, h with
      | q :: ds, h =>
        rw [hl] at hw
        simp only [letS] at h
        split at h
        · rename_i hi
          rw [Bool.and_eq_true] at hi
          have h2 := itemsD_wt hi.1
          have h4 := split_wt _ hi.2
          split at h
          · rename_i p es hp he
            cases h
            have h1 := proc_wt ih _ _ p hp
            have h3 := each_wt ih _ es he
            simp only [wtE, wtEs, wtL] at *; omega
          · cases h
        · cases h
      | [], h => cases h
    split at h
    · cases h
    · cases hk : eachS (exprS n) l with
      | none => rw [hk] at h; cases h
      | some ks =>
        rw [hk] at h
        cases h
        have h1 := each_wt ih l ks hk
        simp only [wtE, wtD]; omega
  | n + 1, .lit (.string s), e, h => by
    simp only [exprS] at h
    split at h
    · cases h
    · cases h; simp only [wtE, wtD]; exact Nat.le_refl _
  | n + 1, .lit (.int k m), e, h => by cases h; exact wtD_pos _
  | n + 1, .lit (.bool b), e, h => by cases h; exact wtD_pos _
  | n + 1, .lit (.float a b), e, h => by cases h; exact wtD_pos _
  | n + 1, .lit .nil, e, h => by cases h; exact wtD_pos _
  | n + 1, .nil, e, h => by cases h; exact wtD_pos _
  | n + 1, .ptr _, e, h => by cases h; exact wtD_pos _
  | n + 1, .slice _ _, e, h => by cases h; exact wtD_pos _
  | n + 1, .iface _ _, e, h => by cases h; exact wtD_pos _
  | n + 1, .map _, e, h => by cases h; exact wtD_pos _
  | n + 1, .held _, e, h => by cases h; exact wtD_pos _
end Go.Proofs.YtlobegpjenabaaaGreatDoor

/- lathe.Compile: of any text what it tells, and the code that it gives. -/
namespace Go.Proofs.YtlobegpjenabaaaGreatDoor
open Go.RowKit
set_option linter.unusedSimpArgs false
set_option linter.unusedVariables false

theorem badAt_st (n : Nat) : ∀ (ds : List D) (i k : Nat) (hk : k ≤ ds.length), (∀ j (hj : j < k), exprF n (ds[j]'(by omega)) = true) → badAt n i ds = badAt n (i + k) (ds.drop k)
  | ds, i, 0, _, _ => by simp
  | [], i, k + 1, hk, _ => absurd hk (by simp)
  | d :: r, i, k + 1, hk, h => by
    have h0 := h 0 (by omega)
    simp at h0
    rw [badAt, if_pos h0, badAt_st n r (i + 1) k (by simpa using hk) (fun j hj => by have := h (j + 1) (by omega); simpa using this)]
    simp only [List.drop_succ_cons]
    congr 1; omega

theorem closeS_ne (forms : List D) (opens : List (Bool × List D)) (e : Int) (h : closeS forms opens = .inl e) : e ≠ 0 := by
  unfold closeS at h
  split at h <;> first | (cases h; done) | (cases h; decide) | (split at h <;> first | (cases h; done) | (cases h; decide))
theorem takeS_ne (forms : List D) (opens : List (Bool × List D)) (t : List UInt8) (e : Int) (h : takeS forms opens t = .inl e) : e ≠ 0 := by
  unfold takeS at h
  split at h
  · split at h
    · cases h; decide
    · cases h
  split at h
  · split at h
    · cases h; decide
    · cases h
  split at h
  · exact closeS_ne _ _ _ h
  split at h
  · split at h
    · cases h; decide
    · cases h
  · cases h; decide
theorem feedP_ne : ∀ (l : List Pc) (st : List D × List (Bool × List D)) (e : Int) (p : Nat), feedP l st = .inl (e, p) → e ≠ 0
  | [], st, e, p, h => by cases h
  | x :: r, st, e, p, h => by
    unfold feedP at h
    split at h
    · rename_i er hr
      cases h
      exact takeS_ne _ _ _ _ hr
    · exact feedP_ne r _ e p h
theorem dataS_err (s : ByteArray) (e : Int) (p : Nat) (h : dataS s = .inl (e, p)) : e ≠ 0 := by
  unfold dataS at h
  split at h
  · split at h
    · rename_i er hr
      cases h
      exact feedP_ne _ _ _ _ hr
    · split at h
      · cases h
      · cases h; decide
  · cases h; decide

/-- The expressions of a text that has nothing wrong. -/
def compE (l : List UInt8) : Option (List E) :=
  if 1000 < l.length then none
  else match readS (l.length + 1) l 0 [] with
    | .inl _ => none
    | .inr f => eachS (exprS 21) f
/-- Code in memory. -/
def CodeIn (w : World) (B C : Nat) (ks : List E) : Prop :=
  ∃ b, w.heap[C]? = some (Obj.cells #[.pointer (some ⟨b, 0, none⟩)] 89 (0, 0)) ∧ B ≤ C ∧ Bd w B b (codeS ks)
/-- What a call of Compile comes to. -/
def IComp (l : List UInt8) (w : World) (e : Ending) (w' : World) : Prop :=
  ∃ v : Option Addr, e = .returned (.tuple #[.pointer v, .int .i64 (compS l).1, .int .i64 (compS l).2]) ∧ (v.isSome = ((compS l).1 == 0)) ∧ Below w.heap.size w w' ∧ (∀ a, v = some a → ∃ B C ks, a = ⟨C, 0, none⟩ ∧ compE l = some ks ∧ w.heap.size ≤ B ∧ CodeIn w' B C ks)
theorem eachS_take_all (f : D → Option E) (ds : List D) (ks : List E) (h : eachS f (ds.take ds.length) = some ks) : eachS f ds = some ks := by rwa [List.take_length] at h

theorem wtL_len : ∀ (ds : List D), ds.length ≤ wtL ds
  | [] => Nat.le_refl _
  | d :: r => by have := wtL_len r; have := wtD_pos d; simp only [wtL, List.length_cons]; omega

set_option maxRecDepth 100000 in
set_option maxHeartbeats 2000000 in
theorem compile_any (s : ByteArray) (hmax : s.size ≤ maxLen) (w : World) (hm : MaxOk w) : Calls Tryz.prog 29 #[.string s] w (IComp s.data.toList w) := by
  have HD := hide (data_any s hmax w hm)
  have HDE := hide (dataS_err s)
  obtain ⟨i0, hi, hz0, hz1, hz2⟩ := info_parts infoE
  have HI := hide (And.intro hi (And.intro hz0 (And.intro hz1 hz2)))
  clear hm hi hz0 hz1 hz2
  go_enter Tryz.func29, Tryz.ntmps29
  go_wp2_with fail
  refine HD.out.mono ?_
  rintro e w1 ⟨hb1, h1, h2⟩
  cases hr : dataS s with
  | inl ep =>
    obtain ⟨er, pp⟩ := ep
    have he := h1 er pp hr
    subst he
    have hne := HDE.out er pp hr
    have bne0 : (er != 0) = true := by rw [bne_iff_ne]; exact hne
    have HC : Hid (compS s.data.toList = (er, (pp : Int))) := by
      show _ = _
      unfold compS
      by_cases hs : s.size ≤ 1000
      · rw [dataS_readS s hs] at hr
        rw [if_neg (by simp; omega)]
        have : s.data.toList.length = s.size := by simp
        rw [this, hr]
      · unfold dataS at hr
        rw [dif_neg hs] at hr
        cases hr
        rw [if_pos (by simp; omega)]; rfl
    have HB := hide hb1
    have HNE := hide hne
    clear h1 h2 hr hne hb1 HDE
    go_wp2
    go_ret3
    exact ⟨none, by rw [HC.out]; rfl, by rw [HC.out]; have := HNE.out; simp [this], HB.out, fun a h => by cases h⟩
  | inr f =>
    have hs : s.size ≤ 1000 := by
      unfold dataS at hr
      split at hr
      · assumption
      · cases hr
    obtain ⟨v, vs, rfl, hrow, hivs⟩ := h2 f hr
    rw [dataS_readS s hs] at hr
    have hsl : s.data.toList.length = s.size := by simp
    have HC : Hid (compS s.data.toList = match badAt 21 0 f with | some i => (4, (i : Int)) | none => (0, 0)) := by show _ = _; unfold compS; rw [if_neg (by rw [hsl]; omega), hsl, hr]; rfl
    have HCE := hide (show compE s.data.toList = eachS (exprS 21) f from by unfold compE; rw [if_neg (by rw [hsl]; omega), hsl, hr])
    have HWT := hide (show wtL f ≤ 8000 from by have := readS_wt _ _ _ _ _ (Nat.zero_le _) hr; rw [hsl] at this; simp [wtL] at this; omega)
    obtain ⟨a, cap, rfl, hc1, hc2, hat⟩ := rowQ_at (RowI.q hrow) hivs
    have hfl : f.length ≤ 8000 := by have := wtL_len f; have := HWT.out; omega
    have HB := hide hb1
    have HAT := hide hat
    unfold maxLen at hc2
    clear h1 h2 hr hb1 hrow hivs hat hsl HDE hs hmax
    go_wp2
    go_loopw [8, 25] (fun u i wr => ∃ k : Nat, k ≤ f.length ∧ i = .int .i64 k ∧ EachRel w1 21 f u wr k) (fun _ i _ => f.length - (intOf i).toNat)
    case atStart => exact ⟨0, Nat.zero_le _, rfl, ⟨[], [], rfl, rfl, World.ownsRow_nil _ _ _ _, .nil⟩, Below.refl _ _, fun j _ h => absurd h (by omega)⟩
    case round =>
      obtain ⟨k, hk, rfl, ⟨es, m, hm, hes, hr, he⟩, hb, hok⟩ := hrel
      have hbs := hb.size
      have hel : es.length ≤ 8000 := by omega
      have HES := hide hes
      clear hes
      have H2 := hide hr
      have HE := hide he
      have HBR := hide hb
      have HOK := hide hok
      have HM := hide hm
      by_cases hlt : k < f.length
      · obtain ⟨g, off, rfl, hg, t, x, hiv, c0⟩ := HAT.out k hlt
        have d0 : wr.cell? ⟨g, off + k, none⟩ = some (.iface t x) := by rw [hb.cell (p := ⟨g, off + k, none⟩) hg]; exact c0
        have HIV := hide (IV.keep (Keep.of_below hb) _ _ _ hiv)
        clear hiv hb c0 hr he hok hm
        obtain ⟨a2, cap2, rfl, _, _, _⟩ := ownsRow_slice H2.out
        cases hex : exprF 21 f[k] with
        | false =>
          have HBA : Hid (badAt 21 0 f = some k) := by
            show _ = _
            rw [badAt_st 21 f 0 k (by omega) (fun j hj => HOK.out j (by omega) hj), List.drop_eq_getElem_cons hlt, badAt, if_neg (by simp [hex]), Nat.zero_add]
          have HEX := hide hex.symm
          clear hex
          go_wp2_with fail
          refine (of_any 21 f[k] (.iface t x) _ false HIV.out HEX).mono ?_
          rintro e w2 ⟨⟨u, rfl, _⟩, hb2⟩
          have HBB := hide (HBR.out.trans (hb2.mono HBR.out.size))
          clear hb2
          go_wp2
          go_ret3
          exact ⟨none, by rw [HC.out, HBA.out]; rfl, by rw [HC.out, HBA.out]; rfl, HB.out.trans (HBB.out.mono HB.out.size), fun a h => by cases h⟩
        | true =>
          have HEX := hide hex.symm
          have HEXT := hide hex
          clear hex
          go_wp2_with fail
          refine (of_any 21 f[k] (.iface t x) _ true HIV.out HEX).mono ?_
          rintro e w2 ⟨⟨u, rfl, hu⟩, hb2⟩
          obtain ⟨m2, hm2, hev⟩ := hu rfl
          obtain ⟨t3, x3, rfl⟩ := hev.form
          have HEV := hide hev
          have HM2 := hide hm2
          have HB2 := hide hb2
          have HR2 := hide (ownsRow_of_upd H2.out (Upd.of_below (fun _ => False) hb2) (fun _ _ h => h))
          have hbs2 := hb2.size
          clear hev hm2 hb2 hu
          go_wp2_with (at_builtin; refine wpList_append_lies _ rfl (.tmp 38) (.tmp 40) 79 rfl w1.heap.size 83 i0 .nilIface 1 16 Tryz.underlying79 HI.out.1 HI.out.2.1 HI.out.2.2.1 HI.out.2.2.2 rfl (by decide) _ es.length es rfl (HR2.out.alloc _) ⟨w2.heap.size, 0, none⟩ 1 1 [.iface t3 x3] rfl rfl (cell_one_new _ _ _) (by intro u hu; simp at hu; subst hu; rfl) (by decide) (by unfold maxLen; omega) (by omega) (by simp; omega) (w2.heap.size + 1) (by simp) ?_)
          intro g4 cap4 w4 hown4 hgrow4 hat4 hlt4
          have HU4 := hide (items_upd hgrow4)
          have HO4 := hide hown4
          have HA4 := hide (hat4.imp id (fun h => by omega : _ → w2.heap.size ≤ g4))
          clear hown4 hgrow4 hat4
          go_wp2
          go_roundw
          case rel =>
            exact ⟨k + 1, by omega, rfl, each_round hlt HM.out HES.out H2.out HE.out HBR.out HOK.out HB2.out HM2.out HEV.out HEXT.out HU4.out HO4.out HA4.out⟩
          case measure => simp [intOf]; omega
      · have hke : k = f.length := by omega
        subst hke
        have HBA : Hid (badAt 21 0 f = none) := by
          show _ = _
          rw [badAt_st 21 f 0 f.length (Nat.le_refl _) (fun j hj => HOK.out j hj hj), List.drop_length]; rfl
        have HMM := hide (eachS_take_all _ f m hm)
        have HBD := hide (build_go m wr _ es ⟨ownsRow_base hr (Nat.zero_le _), fun g hg => (ownsRow_ge hr hg).2⟩ (he.imp (Keep.refl _) fun g o hg ho => ⟨ho, lt_of_some ho⟩) (by have h1 := each_wt (wt_exprS 21) f m HMM.out; have := HWT.out; omega))
        have HBS := hide hbs
        obtain ⟨a2, cap2, rfl, _, _, _⟩ := ownsRow_slice hr
        clear hr he hb hok hm
        go_wp2_with fail
        refine HBD.out.mono ?_
        rintro e w5 ⟨rfl, hbd5, hb5⟩
        have HB5 := hide (HBR.out.trans (hb5.below.mono HBR.out.size))
        have HD5 := hide hbd5
        clear hb5 hbd5 HBD
        go_wp2
        go_ret3
        refine ⟨some _, by rw [HC.out, HBA.out]; rfl, by rw [HC.out, HBA.out]; rfl, HB.out.trans ((HB5.out.alloc HB5.out.size _).mono HB.out.size), fun a h => ?_⟩
        cases h
        refine ⟨wr.heap.size, w5.heap.size, m, rfl, by rw [HCE.out]; exact HMM.out, Nat.le_trans HB.out.size HBS.out, _, Array.getElem?_push_size, HD5.out.le, HD5.out.below ((Below.refl _ _).alloc (Nat.le_refl _) _)⟩
end Go.Proofs.YtlobegpjenabaaaGreatDoor
