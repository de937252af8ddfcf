/- code: here, emit, pointHere, constant, end, with all that the builder holds. -/
import Derived.Test.YtlobegpjenabaaaGreatDoorL12
namespace Go.Proofs.YtlobegpjenabaaaGreatDoor
open Go.RowKit Go.Maps
set_option linter.unusedSimpArgs false
set_option linter.unusedVariables false

theorem BdAt.app0 {w w1 : World} {B b m : Nat} {st : BS} {u0 u1 u2 u3 u5 v : Value} {x1 x3 us : List Value} {op n : Int} (h : BdAt w B b st u0 u1 u2 u3 m u5 x1 x3 us) (hu : Upd (fun k => u0.ownBlock = some k) w w1) (hr : w1.ownsRow B 174 2 v (st.is.length + 1) (flatI st.is ++ [.int .i64 op, .int .i64 n])) :
    BdAt (w1.setCell ⟨b, 0, none⟩ v) B b (emitS st op n) v u1 u2 u3 m u5 x1 x3 us := by
  have hS1 := keep_row h.r0 hu (T' := 147) (by decide) _ _ h.hS
  have hbl : Below B w (w1.setCell ⟨b, 0, none⟩ v) := (hu.below h.le (by intro k hk; exact (ownsRow_ge h.r0 hk).1)).setCell h.hb _
  obtain ⟨Dm, mp, hn⟩ := h.mp
  have mp1 := ownsMap_block mp (map_upd h.r0 hu mp)
  exact ⟨h.hb, heap_setCell_same hS1, by rw [emitS, List.length_append, flatI_append]; exact ownsRow_keep (keep_set hS1 (by decide)) hr, ownsRow_keep ((keep_row h.r0 hu (by decide)).trans (keep_set hS1 (by decide))) h.r1, h.c1.keep ((keep_row h.r0 hu (by decide)).trans (keep_set hS1 (by decide))), ownsRow_keep ((keep_row h.r0 hu (by decide)).trans (keep_set hS1 (by decide))) h.r2, ownsRow_keep ((keep_row h.r0 hu (by decide)).trans (keep_set hS1 (by decide))) h.r3, h.l3.keep ((keep_row h.r0 hu (by decide)).trans (keep_set hS1 (by decide))), ownsRow_keep ((keep_row h.r0 hu (by decide)).trans (keep_set hS1 (by decide))) h.r5, h.e5.imp ((keep_row h.r0 hu (by decide)).trans (keep_set hS1 (by decide))) (fun g o hg ho => ⟨by rw [hbl.block g hg]; exact ho, hg⟩), h.hm, Dm, ownsMap_block mp1 (map_set hS1 mp1), hn⟩
theorem BdAt.app1 {w w1 : World} {B b m : Nat} {st : BS} {u0 u1 u2 u3 u5 v : Value} {x1 x3 us : List Value} {c : Option D} {cv : Value} (h : BdAt w B b st u0 u1 u2 u3 m u5 x1 x3 us) (hu : Upd (fun k => u1.ownBlock = some k) w w1) (hr : w1.ownsRow B 81 1 v (st.cs.length + 1) (x1 ++ [cv])) (hc : CV w c cv) :
    BdAt (w1.setCell ⟨b, 1, none⟩ v) B b (constS st c) u0 v u2 u3 m u5 (x1 ++ [cv]) x3 us := by
  have hS1 := keep_row h.r1 hu (T' := 147) (by decide) _ _ h.hS
  have hbl : Below B w (w1.setCell ⟨b, 1, none⟩ v) := (hu.below h.le (by intro k hk; exact (ownsRow_ge h.r1 hk).1)).setCell h.hb _
  obtain ⟨Dm, mp, hn⟩ := h.mp
  have mp1 := ownsMap_block mp (map_upd h.r1 hu mp)
  exact ⟨h.hb, heap_setCell_same hS1, ownsRow_keep ((keep_row h.r1 hu (by decide)).trans (keep_set hS1 (by decide))) h.r0, by rw [constS, List.length_append]; exact ownsRow_keep (keep_set hS1 (by decide)) hr, CVs.snoc _ _ _ _ (h.c1.keep ((keep_row h.r1 hu (by decide)).trans (keep_set hS1 (by decide)))) (hc.keep ((keep_row h.r1 hu (by decide)).trans (keep_set hS1 (by decide)))), ownsRow_keep ((keep_row h.r1 hu (by decide)).trans (keep_set hS1 (by decide))) h.r2, ownsRow_keep ((keep_row h.r1 hu (by decide)).trans (keep_set hS1 (by decide))) h.r3, h.l3.keep ((keep_row h.r1 hu (by decide)).trans (keep_set hS1 (by decide))), ownsRow_keep ((keep_row h.r1 hu (by decide)).trans (keep_set hS1 (by decide))) h.r5, h.e5.imp ((keep_row h.r1 hu (by decide)).trans (keep_set hS1 (by decide))) (fun g o hg ho => ⟨by rw [hbl.block g hg]; exact ho, hg⟩), h.hm, Dm, ownsMap_block mp1 (map_set hS1 mp1), hn⟩
theorem BdAt.app2 {w w1 : World} {B b m : Nat} {st : BS} {u0 u1 u2 u3 u5 v : Value} {x1 x3 us : List Value} {s : List UInt8} (h : BdAt w B b st u0 u1 u2 u3 m u5 x1 x3 us) (hu : Upd (fun k => u2.ownBlock = some k) w w1) (hr : w1.ownsRow B 9 1 v (st.ns.length + 1) (st.ns.map strV ++ [strV s])) (hm : ∃ Dm, w.ownsMap Tryz.prog 9 (plainElem (H := Unit) Tryz.prog 3) m (st.ns.length + 1) Dm ∧ NmMap Dm (st.ns ++ [s])) :
    BdAt (w1.setCell ⟨b, 2, none⟩ v) B b { st with ns := st.ns ++ [s] } u0 u1 v u3 m u5 x1 x3 us := by
  have hS1 := keep_row h.r2 hu (T' := 147) (by decide) _ _ h.hS
  have hbl : Below B w (w1.setCell ⟨b, 2, none⟩ v) := (hu.below h.le (by intro k hk; exact (ownsRow_ge h.r2 hk).1)).setCell h.hb _
  obtain ⟨Dm, mp, hn⟩ := hm
  have mp1 := ownsMap_block mp (map_upd h.r2 hu mp)
  exact ⟨h.hb, heap_setCell_same hS1, ownsRow_keep ((keep_row h.r2 hu (by decide)).trans (keep_set hS1 (by decide))) h.r0, ownsRow_keep ((keep_row h.r2 hu (by decide)).trans (keep_set hS1 (by decide))) h.r1, h.c1.keep ((keep_row h.r2 hu (by decide)).trans (keep_set hS1 (by decide))), by rw [List.length_append, List.map_append]; exact ownsRow_keep (keep_set hS1 (by decide)) hr, ownsRow_keep ((keep_row h.r2 hu (by decide)).trans (keep_set hS1 (by decide))) h.r3, h.l3.keep ((keep_row h.r2 hu (by decide)).trans (keep_set hS1 (by decide))), ownsRow_keep ((keep_row h.r2 hu (by decide)).trans (keep_set hS1 (by decide))) h.r5, h.e5.imp ((keep_row h.r2 hu (by decide)).trans (keep_set hS1 (by decide))) (fun g o hg ho => ⟨by rw [hbl.block g hg]; exact ho, hg⟩), h.hm, Dm, by rw [List.length_append]; exact ownsMap_block mp1 (map_set hS1 mp1), hn⟩
theorem BdAt.app3 {w w1 : World} {B b m : Nat} {st : BS} {u0 u1 u2 u3 u5 v : Value} {x1 x3 us : List Value} {l : List UInt8 × List Nat × Nat} {a d e : Value} (h : BdAt w B b st u0 u1 u2 u3 m u5 x1 x3 us) (hu : Upd (fun k => u3.ownBlock = some k) w w1) (hr : w1.ownsRow B 213 3 v (st.ls.length + 1) (x3 ++ [a, d, e])) (hl : a = strV l.1 ∧ w.ownsRow B 3 1 d l.2.1.length (l.2.1.map fun (k : Nat) => Value.int .i64 k) ∧ e = .int .i64 l.2.2) :
    BdAt (w1.setCell ⟨b, 3, none⟩ v) B b { st with ls := st.ls ++ [l] } u0 u1 u2 v m u5 x1 (x3 ++ [a, d, e]) us := by
  have hS1 := keep_row h.r3 hu (T' := 147) (by decide) _ _ h.hS
  have hbl : Below B w (w1.setCell ⟨b, 3, none⟩ v) := (hu.below h.le (by intro k hk; exact (ownsRow_ge h.r3 hk).1)).setCell h.hb _
  obtain ⟨Dm, mp, hn⟩ := h.mp
  have mp1 := ownsMap_block mp (map_upd h.r3 hu mp)
  exact ⟨h.hb, heap_setCell_same hS1, ownsRow_keep ((keep_row h.r3 hu (by decide)).trans (keep_set hS1 (by decide))) h.r0, ownsRow_keep ((keep_row h.r3 hu (by decide)).trans (keep_set hS1 (by decide))) h.r1, h.c1.keep ((keep_row h.r3 hu (by decide)).trans (keep_set hS1 (by decide))), ownsRow_keep ((keep_row h.r3 hu (by decide)).trans (keep_set hS1 (by decide))) h.r2, by rw [List.length_append]; exact ownsRow_keep (keep_set hS1 (by decide)) hr, LVs.snoc _ _ _ _ _ _ (h.l3.keep ((keep_row h.r3 hu (by decide)).trans (keep_set hS1 (by decide)))) ⟨hl.1, ownsRow_keep ((keep_row h.r3 hu (by decide)).trans (keep_set hS1 (by decide))) hl.2.1, hl.2.2⟩, ownsRow_keep ((keep_row h.r3 hu (by decide)).trans (keep_set hS1 (by decide))) h.r5, h.e5.imp ((keep_row h.r3 hu (by decide)).trans (keep_set hS1 (by decide))) (fun g o hg ho => ⟨by rw [hbl.block g hg]; exact ho, hg⟩), h.hm, Dm, ownsMap_block mp1 (map_set hS1 mp1), hn⟩
theorem BdAt.app5 {w w1 : World} {B b m : Nat} {st : BS} {u0 u1 u2 u3 u5 v : Value} {x1 x3 us : List Value} {k : E} {kv : Value} (h : BdAt w B b st u0 u1 u2 u3 m u5 x1 x3 us) (hu : Upd (fun k => u5.ownBlock = some k) w w1) (hr : w1.ownsRow B 83 1 v (us.length + 1) (us ++ [kv])) (hk : EV w (fun g => g < B) k kv) :
    BdAt (w1.setCell ⟨b, 5, none⟩ v) B b { st with bs := st.bs ++ [k] } u0 u1 u2 u3 m v x1 x3 (us ++ [kv]) := by
  have hS1 := keep_row h.r5 hu (T' := 147) (by decide) _ _ h.hS
  have hbl : Below B w (w1.setCell ⟨b, 5, none⟩ v) := (hu.below h.le (by intro k hk; exact (ownsRow_ge h.r5 hk).1)).setCell h.hb _
  obtain ⟨Dm, mp, hn⟩ := h.mp
  have mp1 := ownsMap_block mp (map_upd h.r5 hu mp)
  exact ⟨h.hb, heap_setCell_same hS1, ownsRow_keep ((keep_row h.r5 hu (by decide)).trans (keep_set hS1 (by decide))) h.r0, ownsRow_keep ((keep_row h.r5 hu (by decide)).trans (keep_set hS1 (by decide))) h.r1, h.c1.keep ((keep_row h.r5 hu (by decide)).trans (keep_set hS1 (by decide))), ownsRow_keep ((keep_row h.r5 hu (by decide)).trans (keep_set hS1 (by decide))) h.r2, ownsRow_keep ((keep_row h.r5 hu (by decide)).trans (keep_set hS1 (by decide))) h.r3, h.l3.keep ((keep_row h.r5 hu (by decide)).trans (keep_set hS1 (by decide))), by rw [List.length_append]; exact ownsRow_keep (keep_set hS1 (by decide)) hr, (h.e5.imp ((keep_row h.r5 hu (by decide)).trans (keep_set hS1 (by decide))) (fun g o hg ho => ⟨by rw [hbl.block g hg]; exact ho, hg⟩)).append (EVs.cons (hk.imp ((keep_row h.r5 hu (by decide)).trans (keep_set hS1 (by decide))) (fun g o hg ho => ⟨by rw [hbl.block g hg]; exact ho, hg⟩)) EVs.nil), h.hm, Dm, ownsMap_block mp1 (map_set hS1 mp1), hn⟩
theorem infoI : (Tryz.prog.info? 174).map (fun i => (i.zero, i.size, i.bytes)) = some (some (.agg #[.int .i64 0, .int .i64 0]), 2, 16) := by kernel_rfl

set_option maxHeartbeats 1000000 in
theorem here_go {w : World} {B b : Nat} {st : BS} (h : Bd w B b st) (hK : st.size ≤ 2199023255552) :
    Calls Tryz.prog 99 #[.pointer (some ⟨b, 0, none⟩)] w fun e w' => e = .returned (.int .i64 st.is.length) ∧ w' = w := by
  obtain ⟨_, u0, u1, u2, u3, m, u5, x1, x3, us, h⟩ := h
  obtain ⟨a, cap, rfl, hc1, hc2, _⟩ := ownsRow_slice h.r0
  have c0 := cell_of_block h.hS 0
  simp only [List.getElem?_toArray, List.getElem?_cons_zero] at c0
  have hnI : st.is.length ≤ 2199023255552 := by unfold BS.size at hK; omega
  clear h hc1 hc2 hK
  go_enter Tryz.func99, Tryz.ntmps99
  go_wp2
  go_ret
  exact ⟨rfl, rfl⟩

/-- What a call that adds one thing comes to. -/
def OnePost (w : World) (B b : Nat) (st : BS) (r : Int) (e : Ending) (w' : World) : Prop :=
  e = .returned (.int .i64 r) ∧ Bd w' B b st ∧ Chg B w w'

set_option maxRecDepth 100000 in
set_option maxHeartbeats 2000000 in
theorem emit_go {w : World} {B b : Nat} {st : BS} (op n : Int) (h : Bd w B b st) (hK : st.size ≤ 1099511627776) :
    Calls Tryz.prog 59 #[.pointer (some ⟨b, 0, none⟩), .int .i64 op, .int .i64 n] w (OnePost w B b (emitS st op n) st.is.length) := by
  obtain ⟨hlb, u0, u1, u2, u3, m, u5, x1, x3, us, h⟩ := h
  have HLB := hide hlb
  clear hlb
  have HH := hide h
  have HR := hide h.r0
  have hBw : B ≤ w.heap.size := Nat.le_of_lt (Nat.lt_of_le_of_lt h.hb (lt_of_some h.hS))
  obtain ⟨a, cap, rfl, hc1, hc2, _⟩ := ownsRow_slice h.r0
  have c0 := cell_of_block h.hS 0
  simp only [List.getElem?_toArray, List.getElem?_cons_zero] at c0
  have hnI : st.is.length ≤ 1099511627776 := by unfold BS.size at hK; omega
  have HK2 := hide (show (emitS st op n).size ≤ 2199023255552 from by unfold BS.size at *; simp [emitS]; omega)
  have hbl := lt_of_some h.hS
  obtain ⟨i0, hi, hz0, hz1, hz2⟩ := info_parts infoI
  have HI := hide (And.intro hi (And.intro hz0 (And.intro hz1 hz2)))
  clear h hc1 hc2 hi hz0 hz1 hz2 hK
  go_enter Tryz.func59, Tryz.ntmps59
  go_wp2_with (at_builtin; refine wpList_append_lies _ rfl (.tmp 12) (.tmp 16) 142 rfl B 174 i0 (.agg #[.int .i64 0, .int .i64 0]) 2 16 Tryz.underlying142 HI.out.1 HI.out.2.1 HI.out.2.2.1 HI.out.2.2.2 rfl (by decide) _ st.is.length (flatI st.is) rfl (HR.out.alloc _) ⟨w.heap.size, 0, none⟩ 1 1 [.int .i64 op, .int .i64 n] rfl rfl (news2 (heap_alloc_new _ _)) (by intro u hu; simp at hu; rcases hu with rfl | rfl <;> rfl) (by decide) (by unfold maxLen; omega) (by omega) (by simp; omega) (w.heap.size + 1) (by simp) ?_)
  intro g2 cap2 w1 hown1 hgrow hat hlt1
  have HU1 := hide (items_upd hgrow)
  have HO1 := hide hown1
  have hS1 := keep_row HR.out HU1.out (T' := 147) (by decide) _ _ HH.out.hS
  have d0 := cell_of_block hS1 0
  simp only [List.getElem?_toArray, List.getElem?_cons_zero] at d0
  have f0 := frozen_of_block hS1 0
  have HB := hide (show Bd (w1.setCell ⟨b, 0, none⟩ (.slice (some ⟨g2, 0, none⟩) (st.is.length + 1) cap2)) B b (emitS st op n) from ⟨HLB.out, _, _, _, _, _, _, _, _, _, HH.out.app0 HU1.out HO1.out⟩)
  have HBL := hide (show Chg B w (w1.setCell ⟨b, 0, none⟩ (.slice (some ⟨g2, 0, none⟩) (st.is.length + 1) cap2)) from (Chg.row HR.out rfl HU1.out hBw).set hS1 rfl HH.out.hb)
  clear hown1 hgrow hat hS1
  go_wp2_with fail
  refine (here_go HB.out HK2.out).mono ?_
  rintro e w3 ⟨rfl, rfl⟩
  rw [show ((emitS st op n).is.length : Int) = (st.is.length : Int) + 1 from by simp [emitS]]
  go_wp2
  go_ret
  exact ⟨by simp, HB.out, HBL.out⟩

/-- What a call that gives nothing comes to. -/
def NonePost (w : World) (B b : Nat) (st : BS) (e : Ending) (w' : World) : Prop :=
  e = .returned (.tuple #[]) ∧ Bd w' B b st ∧ Chg B w w'

theorem BdAt.point {w : World} {B b m g i cap : Nat} {st : BS} {u1 u2 u3 u5 : Value} {x1 x3 us : List Value} (h : BdAt w B b st (.slice (some ⟨g, 0, none⟩) st.is.length cap) u1 u2 u3 m u5 x1 x3 us) (hi : i < st.is.length) :
    BdAt (w.setCell ⟨g, i * 2 + 1, none⟩ (.int .i64 st.is.length)) B b (pointS st i) (.slice (some ⟨g, 0, none⟩) st.is.length cap) u1 u2 u3 m u5 x1 x3 us := by
  obtain ⟨Dm, mp, hn⟩ := h.mp
  rcases h.r0.2 with ⟨hv, _⟩ | ⟨g', cap', cu, hv, hg, hh, h1, h2, h3, h4⟩
  · cases hv
  · cases hv
    have hbl : Below B w (w.setCell ⟨g, i * 2 + 1, none⟩ (.int .i64 st.is.length)) := (Below.refl B w).setCell (p := ⟨g, i * 2 + 1, none⟩) hg _
    refine ⟨h.hb, keep_set hh (by decide) _ _ h.hS, ?_, ownsRow_keep (keep_set hh (by decide)) h.r1, h.c1.keep (keep_set hh (by decide)), ownsRow_keep (keep_set hh (by decide)) h.r2, ownsRow_keep (keep_set hh (by decide)) h.r3, h.l3.keep (keep_set hh (by decide)), ownsRow_keep (keep_set hh (by decide)) h.r5, h.e5.imp (keep_set hh (by decide)) (fun g o hg ho => ⟨by rw [hbl.block g hg]; exact ho, hg⟩), h.hm, Dm, ownsMap_block mp (map_set hh mp), hn⟩
    rw [pointS, List.length_set, flatI_set _ _ _ hi]
    refine ⟨by rw [List.length_set]; exact h.r0.1, Or.inr ⟨g, cap, _, rfl, hg, heap_setCell_same hh, h1, h2, by simpa using h3, ?_⟩⟩
    rw [Array.toList_setIfInBounds, List.take_set, h4]

set_option maxRecDepth 100000 in
set_option maxHeartbeats 2000000 in
theorem pointHere_go {w : World} {B b : Nat} {st : BS} (i : Nat) (hi : i < st.is.length) (h : Bd w B b st) (hK : st.size ≤ 1099511627776) :
    Calls Tryz.prog 98 #[.pointer (some ⟨b, 0, none⟩), .int .i64 i] w (NonePost w B b (pointS st i)) := by
  have HHE := hide (here_go (h.below (Below.refl w.heap.size w).drew) (by omega))
  obtain ⟨hlb, u0, u1, u2, u3, m, u5, x1, x3, us, h⟩ := h
  have HLB := hide hlb
  clear hlb
  obtain ⟨a, cap, rfl, hc1, hc2, hat⟩ := ownsRow_slice h.r0
  have hw : ∃ g, a = some ⟨g, 0, none⟩ ∧ B ≤ g ∧ (w.cell? ⟨g, i * 2 + 1, none⟩).isSome = true ∧ w.frozen? ⟨g, i * 2 + 1, none⟩ = false ∧ ∃ cu, w.heap[g]? = some (Obj.cells cu 174 (0, 0)) := by
    rcases h.r0.2 with ⟨hv, h0⟩ | ⟨g', cap', cu, hv, hg, hh, h1, h2, h3, h4⟩
    · omega
    · cases hv
      exact ⟨g', rfl, hg, by rw [cell_of_block hh, Array.getElem?_eq_getElem (by omega)]; rfl, frozen_of_block hh _, _, hh⟩
  obtain ⟨g, rfl, hBg, hcell, hfz, cu0, hh0⟩ := hw
  have HHH := hide hh0
  clear hh0
  obtain ⟨old, hcell⟩ := Option.isSome_iff_exists.1 hcell
  have c0 := cell_of_block h.hS 0
  simp only [List.getElem?_toArray, List.getElem?_cons_zero] at c0
  have hnI : st.is.length ≤ 1099511627776 := by unfold BS.size at hK; omega
  unfold maxLen at hc2
  have HB := hide (show Bd (w.setCell ⟨g, i * 2 + 1, none⟩ (.int .i64 st.is.length)).drew B b (pointS st i) from
    Bd.below (w := w.setCell ⟨g, i * 2 + 1, none⟩ (.int .i64 st.is.length)) ⟨HLB.out, _, _, _, _, _, _, _, _, _, h.point hi⟩ (Below.refl _ _).drew)
  clear h hat hK
  go_enter Tryz.func98, Tryz.ntmps98
  go_region_with (go_at_call 99; refine (HHE.out).mono ?_; rintro e w' ⟨rfl, rfl⟩)
  all_goals
    refine bodyPost_ret (results_none rfl _ _ _) rfl ?_
    exact ⟨rfl, HB.out, ((Chg.refl B w).set HHH.out rfl hBg).drew⟩

set_option maxRecDepth 100000 in
set_option maxHeartbeats 2000000 in
theorem constant_go {w : World} {B b : Nat} {st : BS} (c : Option D) (t : TypeId) (x : Value) (hcv : CV w c (.iface t x)) (h : Bd w B b st) (hK : st.size ≤ 1099511627776) :
    Calls Tryz.prog 151 #[.pointer (some ⟨b, 0, none⟩), .iface t x] w (OnePost w B b (constS st c) st.cs.length) := by
  obtain ⟨hlb, u0, u1, u2, u3, m, u5, x1, x3, us, h⟩ := h
  have HLB := hide hlb
  have HCV := hide hcv
  clear hlb hcv
  have HH := hide h
  have HR := hide h.r1
  have hBw : B ≤ w.heap.size := Nat.le_of_lt (Nat.lt_of_le_of_lt h.hb (lt_of_some h.hS))
  obtain ⟨a, cap, rfl, hc1, hc2, _⟩ := ownsRow_slice h.r1
  have c0 := cell_of_block h.hS 1
  simp only [List.getElem?_toArray, List.getElem?_cons_zero, List.getElem?_cons_succ] at c0
  have hnC : st.cs.length ≤ 1099511627776 := by unfold BS.size at hK; omega
  have hbl := lt_of_some h.hS
  obtain ⟨i0, hi, hz0, hz1, hz2⟩ := info_parts infoVal
  have HI := hide (And.intro hi (And.intro hz0 (And.intro hz1 hz2)))
  clear h hc1 hc2 hi hz0 hz1 hz2 hK
  go_enter Tryz.func151, Tryz.ntmps151
  go_wp2_with (at_builtin; refine wpList_append_lies _ rfl (.tmp 10) (.tmp 12) 76 rfl B 81 i0 .nilIface 1 16 Tryz.underlying76 HI.out.1 HI.out.2.1 HI.out.2.2.1 HI.out.2.2.2 rfl (by decide) _ st.cs.length x1 rfl (HR.out.alloc _) ⟨w.heap.size, 0, none⟩ 1 1 [.iface t x] rfl rfl (cell_one_new _ _ _) (by intro u hu; simp at hu; subst hu; rfl) (by decide) (by unfold maxLen; omega) (by omega) (by simp; omega) (w.heap.size + 1) (by simp) ?_)
  intro g2 cap2 w1 hown1 hgrow hat hlt1
  have HU1 := hide (items_upd hgrow)
  have HO1 := hide hown1
  have hS1 := keep_row HR.out HU1.out (T' := 147) (by decide) _ _ HH.out.hS
  have d0 := cell_of_block hS1 1
  simp only [List.getElem?_toArray, List.getElem?_cons_zero, List.getElem?_cons_succ] at d0
  have f0 := frozen_of_block hS1 1
  have HB := hide (show Bd (w1.setCell ⟨b, 1, none⟩ (.slice (some ⟨g2, 0, none⟩) (st.cs.length + 1) cap2)) B b (constS st c) from ⟨HLB.out, _, _, _, _, _, _, _, _, _, HH.out.app1 HU1.out HO1.out HCV.out⟩)
  have HBL := hide (show Chg B w (w1.setCell ⟨b, 1, none⟩ (.slice (some ⟨g2, 0, none⟩) (st.cs.length + 1) cap2)) from (Chg.row HR.out rfl HU1.out hBw).set hS1 rfl HH.out.hb)
  clear hown1 hgrow hat hS1
  go_wp2
  go_ret
  exact ⟨by simp, HB.out, HBL.out⟩

set_option maxHeartbeats 1000000 in
theorem end_go {w : World} {B b : Nat} {st : BS} (last : Bool) (h : Bd w B b st) (hK : st.size ≤ 1099511627776) :
    Calls Tryz.prog 152 #[.pointer (some ⟨b, 0, none⟩), .bool last] w (NonePost w B b (endS st last)) := by
  have HE := hide (emit_go 13 0 h hK)
  have HH := hide h
  clear h
  cases last with
  | false =>
    go_enter Tryz.func152, Tryz.ntmps152
    go_wp2
    refine bodyPost_ret (results_none rfl _ _ _) rfl ?_
    exact ⟨rfl, HH.out, Chg.refl _ _⟩
  | true =>
    go_enter Tryz.func152, Tryz.ntmps152
    go_wp2_with fail
    refine HE.out.mono ?_
    rintro e w2 ⟨rfl, hb2, hbl⟩
    have HB := hide hb2
    have HBL := hide hbl
    clear hb2 hbl
    go_wp2
    refine bodyPost_ret (results_none rfl _ _ _) rfl ?_
    exact ⟨rfl, HB.out, HBL.out⟩
end Go.Proofs.YtlobegpjenabaaaGreatDoor

/- code: name. -/
namespace Go.Proofs.YtlobegpjenabaaaGreatDoor
open Go.RowKit Go.Maps
set_option linter.unusedSimpArgs false
set_option linter.unusedVariables false

theorem law_key : Go.Maps.Keyed Tryz.prog 9 := Go.Maps.string_keyed Tryz.underlying9
theorem zero_int (w : World) : (zeroValue 3).run Tryz.prog w = .ok (.int .i64 0) w := by kernel_rfl

theorem idxOf_not : ∀ (l : List (List UInt8)) (s : List UInt8), l.contains s = false → l.idxOf s = l.length
  | [], s, _ => rfl
  | a :: r, s, h => by
    simp only [List.contains_cons, Bool.or_eq_false_iff] at h
    have h1 : (a == s) = false := by rw [← h.1]; exact Bool.beq_comm
    rw [List.idxOf_cons, h1, idxOf_not r s h.2]; rfl
theorem idxOf_snoc : ∀ (l : List (List UInt8)) (s t : List UInt8), l.contains s = true → (l ++ [t]).idxOf s = l.idxOf s
  | [], s, t, h => by cases h
  | a :: r, s, t, h => by
    simp only [List.contains_cons, Bool.or_eq_true] at h
    rw [List.cons_append, List.idxOf_cons, List.idxOf_cons]
    cases ha : (a == s) with
    | true => rfl
    | false =>
      have : (s == a) = false := by rw [← ha]; exact Bool.beq_comm
      rw [this] at h
      rcases h with h | h
      · cases h
      · rw [idxOf_snoc r s t h]
theorem idxOf_new : ∀ (l : List (List UInt8)) (s : List UInt8), l.contains s = false → (l ++ [s]).idxOf s = l.length
  | [], s, _ => by simp [List.idxOf_cons]
  | a :: r, s, h => by
    simp only [List.contains_cons, Bool.or_eq_false_iff] at h
    have h1 : (a == s) = false := by rw [← h.1]; exact Bool.beq_comm
    rw [List.cons_append, List.idxOf_cons, h1, idxOf_new r s h.2]; rfl
theorem NmMap.put {Dm : DataW Unit} {ns : List (List UInt8)} {s : List UInt8} (h : NmMap Dm ns) (hs : ns.contains s = false) : NmMap (Dm.put (.string s) (.lit (.int .i64 (ns.length : Nat)))) (ns ++ [s]) := by
  refine ⟨h.1.put _ _, fun t => ?_⟩
  by_cases ht : t = s
  · subst ht
    have hc : (ns ++ [t]).contains t = true := by simp
    refine ⟨by rw [has_put_same h.1 (by trivial), hc], fun _ => ?_⟩
    rw [atKey_put_same h.1 (by trivial), idxOf_new ns t hs]
  · have hne : (Lit.string t) ≠ Lit.string s := fun e => ht (by cases e; rfl)
    have hc : (ns ++ [s]).contains t = ns.contains t := by simp [ht]
    rw [has_put_other hne, atKey_put_other hne, hc]
    exact ⟨(h.2 t).1, fun h' => by rw [idxOf_snoc ns t s h']; exact (h.2 t).2 h'⟩
theorem nameS_old {st : BS} {s : List UInt8} (h : st.ns.contains s = true) : nameS st s = st := by unfold nameS; rw [if_pos h]
theorem nameS_new {st : BS} {s : List UInt8} (h : st.ns.contains s = false) : nameS st s = { st with ns := st.ns ++ [s] } := by unfold nameS; rw [if_neg (by rw [h]; decide)]

/-- Behind a store into the map: all but the map. -/
theorem BdAt.put {w w1 : World} {B b m n : Nat} {st : BS} {u0 u1 u2 u3 u5 : Value} {x1 x3 us : List Value} {Dm Dm' : DataW Unit} {ns' : List (List UInt8)} (h : BdAt w B b st u0 u1 u2 u3 m u5 x1 x3 us) (hm : w.ownsMap Tryz.prog 9 (plainElem (H := Unit) Tryz.prog 3) m n Dm) (hg : w.grownBy w1 (some m)) :
    w1.heap[b]? = w.heap[b]? ∧ w1.ownsRow B 174 2 u0 st.is.length (flatI st.is) ∧ w1.ownsRow B 81 1 u1 st.cs.length x1 ∧ CVs w1 st.cs x1 ∧ w1.ownsRow B 9 1 u2 st.ns.length (st.ns.map strV) ∧ w1.ownsRow B 213 3 u3 st.ls.length x3 ∧ LVs w1 B st.ls x3 ∧ w1.ownsRow B 83 1 u5 us.length us ∧ EVs w1 (fun g => g < B) st.bs us := by
  have hch := Chg.map hm h.hm h.le hg
  obtain ⟨es, cl, hm1, _⟩ := hm
  have kp : ∀ T, Keep T w w1 := fun T x c hx => by
    rw [hg.block x (lt_of_some hx) (fun e => by cases e; rw [hm1] at hx; cases hx)]; exact hx
  exact ⟨by rw [kp _ _ _ h.hS, h.hS], ownsRow_keep (kp _) h.r0, ownsRow_keep (kp _) h.r1, h.c1.keep (kp _), ownsRow_keep (kp _) h.r2, ownsRow_keep (kp _) h.r3, h.l3.keep (kp _), ownsRow_keep (kp _) h.r5, h.e5.imp (kp _) (fun g o hg ho => ⟨by rw [hch.below.block g hg]; exact ho, hg⟩)⟩

def NamPost (w : World) (B b : Nat) (st : BS) (u0 u1 u3 : Value) (m : Nat) (u5 : Value) (x1 x3 us : List Value) (s : ByteArray) (e : Ending) (w' : World) : Prop :=
  e = .returned (.int .i64 (numS st s.data.toList)) ∧ (∃ u2, BdAt w' B b (nameS st s.data.toList) u0 u1 u2 u3 m u5 x1 x3 us) ∧ Chg B w w'

set_option maxRecDepth 100000 in
set_option maxHeartbeats 4000000 in
theorem name_at {w : World} {B b m : Nat} {st : BS} {u0 u1 u2 u3 u5 : Value} {x1 x3 us : List Value} (s : ByteArray) (hs : s.size ≤ maxLen) (h : BdAt w B b st u0 u1 u2 u3 m u5 x1 x3 us) (hK : st.size ≤ 1099511627776) :
    Calls Tryz.prog 153 #[.pointer (some ⟨b, 0, none⟩), .string s] w (NamPost w B b st u0 u1 u3 m u5 x1 x3 us s) := by
  obtain ⟨Dm, hmp, hnm⟩ := h.mp
  have HNM := hide hnm
  clear hnm
  have HH := hide h
  have HM := hide hmp
  have HR := hide h.r2
  have hkey := WideMaps.keyOf_string_mk (P := Tryz.prog) Tryz.underlying9 hs
  have HKY := hide hkey
  have hBw : B ≤ w.heap.size := Nat.le_of_lt (Nat.lt_of_le_of_lt h.hb (lt_of_some h.hS))
  obtain ⟨a, cap, rfl, hc1, hc2, _⟩ := ownsRow_slice h.r2
  have c4 := cell_of_block h.hS 4
  have c2 := cell_of_block h.hS 2
  simp only [List.getElem?_toArray, List.getElem?_cons_zero, List.getElem?_cons_succ] at c2 c4
  have hnN : st.ns.length ≤ 1099511627776 := by unfold BS.size at hK; omega
  have hbl := lt_of_some h.hS
  obtain ⟨i0, hi, hz0, hz1, hz2⟩ := info_parts infoStr
  have HI := hide (And.intro hi (And.intro hz0 (And.intro hz1 hz2)))
  clear h hc1 hc2 hi hz0 hz1 hz2 hmp hkey hK
  go_enter Tryz.func153, Tryz.ntmps153
  go_wp2_with (at_lookup; refine wpList_lookup_own_ok_int _ rfl _ _ 141 rfl 9 3 .i64 law_key Tryz.underlying141 Tryz.underlying3 (zero_int _) m st.ns.length _ rfl HM.out _ _ rfl HKY.out ?_)
  intro c hat hwc
  have HAT := hide hat
  have HNS := hide (HNM.out.2 s.data.toList)
  obtain ⟨has, hhas⟩ : ∃ has, has = Maps.has Dm (Lit.string s.data.toList) := ⟨_, rfl⟩
  rw [← hhas]
  have HHAS := hide (show has = st.ns.contains s.data.toList from by rw [hhas, HNS.out.1])
  clear hat hwc hhas
  cases has with
  | true =>
    go_wp2
    go_ret
    have hc := HNS.out.2 HHAS.out.symm
    rw [HAT.out] at hc
    cases hc
    exact ⟨rfl, by rw [nameS_old HHAS.out.symm]; exact ⟨_, HH.out⟩, Chg.refl _ _⟩
  | false =>
    go_wp2_with (at_mapUpdate; refine wpList_mapUpdate_own _ rfl _ _ _ 141 rfl 9 3 law_key Tryz.underlying141 _ m st.ns.length _ rfl HM.out (by unfold maxLen; omega) _ _ _ rfl rfl HKY.out _ [] (plainElem_int Tryz.underlying3 (WalkArith.wf_i64 (by omega))) ?_)
    intro w1 hown1 hgrow1
    have HO1 := hide hown1
    have HP := hide (BdAt.put (Dm' := Dm) (ns' := []) HH.out HM.out hgrow1)
    have hwb : w1.heap[b]? = some (Obj.cells #[u0, u1, .slice a st.ns.length cap, u3, .map (some m), u5] 147 (0, 0)) := by rw [HP.out.1]; exact HH.out.hS
    have d2 := cell_of_block hwb 2
    simp only [List.getElem?_toArray, List.getElem?_cons_zero, List.getElem?_cons_succ] at d2
    have HW := hide hwb
    have HBL1 := hide (Chg.map HM.out HH.out.hm hBw hgrow1)
    have hBw1 : B ≤ w1.heap.size := Nat.le_trans hBw hgrow1.size
    have hbl1 := lt_of_some hwb
    clear hown1 hgrow1 hwb
    go_wp2_with (at_builtin; refine wpList_append_lies _ rfl (.tmp 35) (.tmp 37) 26 rfl B 9 i0 (.string ⟨#[]⟩) 1 16 Tryz.underlying26 HI.out.1 HI.out.2.1 HI.out.2.2.1 HI.out.2.2.2 rfl (by decide) _ st.ns.length (st.ns.map strV) rfl (HP.out.2.2.2.2.1.alloc _) ⟨w1.heap.size, 0, none⟩ 1 1 [.string s] rfl rfl (cell_one_new _ _ _) (by intro u hu; simp at hu; subst hu; rfl) (by decide) (by unfold maxLen; omega) (by omega) (by simp; omega) (w1.heap.size + 1) (by simp) ?_)
    intro g2 cap2 w2 hown2 hgrow2 hat2 hlt2
    have HU2 := hide (items_upd hgrow2)
    have HO2 := hide hown2
    have hS2 := keep_row HP.out.2.2.2.2.1 HU2.out (T' := 147) (by decide) _ _ HW.out
    have e2 := cell_of_block hS2 2
    simp only [List.getElem?_toArray, List.getElem?_cons_zero, List.getElem?_cons_succ] at e2
    have f2 := frozen_of_block hS2 2
    have HA1 := hide (show ∀ Dm', w1.ownsMap Tryz.prog 9 (plainElem (H := Unit) Tryz.prog 3) m (st.ns.length + 1) Dm' → NmMap Dm' (st.ns ++ [s.data.toList]) → BdAt (w2.setCell ⟨b, 2, none⟩ (.slice (some ⟨g2, 0, none⟩) (st.ns.length + 1) cap2)) B b (nameS st s.data.toList) u0 u1 (.slice (some ⟨g2, 0, none⟩) (st.ns.length + 1) cap2) u3 m u5 x1 x3 us from fun Dm' hm' hn' => by
      obtain ⟨q1, q2, q3, q4, q5, q6, q7, q8, q9⟩ := HP.out
      rw [nameS_new HHAS.out.symm]
      have m2 := ownsMap_block hm' (map_upd q5 HU2.out hm')
      have hbl : Below B w1 (w2.setCell ⟨b, 2, none⟩ (.slice (some ⟨g2, 0, none⟩) (st.ns.length + 1) cap2)) := (HU2.out.below hBw1 (by intro k hk; exact (ownsRow_ge q5 hk).1)).setCell HH.out.hb _
      have K : ∀ T, T ≠ 9 → T ≠ 147 → Keep T w1 (w2.setCell ⟨b, 2, none⟩ (.slice (some ⟨g2, 0, none⟩) (st.ns.length + 1) cap2)) := fun T h1 h2 => (keep_row q5 HU2.out h1).trans (keep_set hS2 h2)
      refine ⟨HH.out.hb, heap_setCell_same hS2, ownsRow_keep (K _ (by decide) (by decide)) q2, ownsRow_keep (K _ (by decide) (by decide)) q3, q4.keep (K _ (by decide) (by decide)), ?_, ownsRow_keep (K _ (by decide) (by decide)) q6, q7.keep (K _ (by decide) (by decide)), ownsRow_keep (K _ (by decide) (by decide)) q8, q9.imp (K _ (by decide) (by decide)) (fun g o hg ho => ⟨by rw [hbl.block g hg]; exact ho, hg⟩), HH.out.hm, Dm', ?_, hn'⟩
      · have := ownsRow_keep (keep_set (o := 2) (v := .slice (some ⟨g2, 0, none⟩) (st.ns.length + 1) cap2) hS2 (by decide)) HO2.out
        rw [← strV_of s] at this
        simpa using this
      · have := ownsMap_block m2 (map_set (o := 2) (v := .slice (some ⟨g2, 0, none⟩) (st.ns.length + 1) cap2) hS2 m2)
        simpa using this)
    have HB := hide (HA1.out _ HO1.out (HNM.out.put HHAS.out.symm))
    have HBL := hide (show Chg B w (w2.setCell ⟨b, 2, none⟩ (.slice (some ⟨g2, 0, none⟩) (st.ns.length + 1) cap2)) from (HBL1.out.trans (Chg.row HP.out.2.2.2.2.1 rfl HU2.out hBw1)).set hS2 rfl HH.out.hb)
    have HNUM := hide (show numS st s.data.toList = st.ns.length from idxOf_not _ _ HHAS.out.symm)
    clear hown2 hgrow2 hat2 hS2 HA1
    go_wp2
    go_ret
    exact ⟨by rw [HNUM.out]; rfl, ⟨_, HB.out⟩, HBL.out⟩

theorem name_go {w : World} {B b : Nat} {st : BS} (s : ByteArray) (hs : s.size ≤ maxLen) (h : Bd w B b st) (hK : st.size ≤ 1099511627776) :
    Calls Tryz.prog 153 #[.pointer (some ⟨b, 0, none⟩), .string s] w (OnePost w B b (nameS st s.data.toList) (numS st s.data.toList)) := by
  obtain ⟨hlb, u0, u1, u2, u3, m, u5, x1, x3, us, h⟩ := h
  refine (name_at s hs h hK).mono fun e w' ⟨he, ⟨u2', hb⟩, hc⟩ => ⟨he, ⟨?_, u0, u1, u2', u3, m, u5, x1, x3, us, hb⟩, hc⟩
  exact hlb
end Go.Proofs.YtlobegpjenabaaaGreatDoor
